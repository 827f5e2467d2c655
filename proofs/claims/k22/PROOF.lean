import PyProof.Rows.All
import Wide.All
import OpenK.AllK
import Wide.FinOn
import Lean
import PyProof.EqAt
import PyProof.EqKinds
import PyProof.TupleCall
import PyProof.NeKinds
import PyProof.Rows.SortShellK
import PyProof.Rows.SortStr
import KE.KSortTup
import PyProof.Rows.SetFrom
import PyProof.SetKind
import PyProof.DictKinds
import PyProof.CollectWalk
import PyProof.CollectStr
import PyProof.DictIter
import PyProof.StrLawsIn
import PyProof.DictWalks
import KE.KDictList
import KE.KSortKey
import PyProof.TupleOfSeq
import PySem.Challenge.RW_wordmelt_k22_whole_clashes_tell_all
set_option Elab.async false
set_option linter.all false
set_option maxRecDepth 100000
set_option maxHeartbeats 4000000
namespace L2
open PySem PySem.Spec PyProof.Rows
abbrev Key:=Sum Int Str
def keyIs:Key→Value→Bool
 |.inl k,v=>Value.isInt k v
 |.inr x,v=>Value.isStrOf x v
def keyH (w:World):Key→Int
 |.inl k=>hashInt k
 |.inr x=>hashStr w x
theorem keyIs_shape:∀ {k:Key} {v:Value},keyIs k v=true→(∃ i t,k=Sum.inl i∧v=Value.int i t)∨(∃ x t,k=Sum.inr x∧v=Value.str x t)
 |.inl i,v,h=>by
  obtain⟨t,e⟩:=Value.isInt_shape (k:=i) (v:=v) h
  exact .inl ⟨i,t,rfl,e⟩
 |.inr x,v,h=>by
  obtain⟨t,e⟩:=Value.isStrOf_shape (x:=x) (v:=v) h
  exact .inr ⟨x,t,rfl,e⟩
theorem keyIs_int (i:Int)(t:Tok):keyIs (.inl i) (.int i t)=true:=by simp[keyIs,Value.isInt]
theorem keyIs_str (x:Str)(t:Tok):keyIs (.inr x) (.str x t)=true:=by simp[keyIs,Value.isStrOf]
theorem key_ll (a b:Int):decide ((Sum.inl a:Key)=Sum.inl b)=(a == b):=by
 by_cases e:a=b
 ·subst e; simp
 ·have h:¬ (Sum.inl a:Key)=Sum.inl b:=fun q=>e (Sum.inl.inj q)
  rw[decide_eq_false h]
  exact (beq_eq_false_iff_ne.mpr e).symm
theorem key_rr (a b:Str):decide ((Sum.inr a:Key)=Sum.inr b)=decide (a=b):=by
 by_cases e:a=b
 ·subst e; simp
 ·have h:¬ (Sum.inr a:Key)=Sum.inr b:=fun q=>e (Sum.inr.inj q)
  rw[decide_eq_false h,decide_eq_false e]
theorem key_lr (a:Int)(b:Str):decide ((Sum.inl a:Key)=Sum.inr b)=false:=decide_eq_false (fun q=>nomatch q)
theorem key_rl (a:Str)(b:Int):decide ((Sum.inr a:Key)=Sum.inl b)=false:=decide_eq_false (fun q=>nomatch q)
def mixKind (prog:Program)(w:World):PySem.KeyKind prog w Key where
 is:=keyIs
 hash:=keyH w
 inj:=fun v a b ha hb=>by
  rcases keyIs_shape ha with ⟨i,t,rfl,rfl⟩ | ⟨x,t,rfl,rfl⟩
  ·rcases keyIs_shape hb with ⟨j,u,rfl,e⟩ | ⟨y,u,rfl,e⟩
   ·injection e with e1 _; rw[e1]
   ·exact nomatch e
  ·rcases keyIs_shape hb with ⟨j,u,rfl,e⟩ | ⟨y,u,rfl,e⟩
   ·exact nomatch e
   ·injection e with e1 _; rw[e1]
 byValue:=fun k v h=>by
  rcases keyIs_shape h with ⟨i,t,rfl,rfl⟩ | ⟨x,t,rfl,rfl⟩ <;> rfl
 pyHash:=fun hv h=>by
  rcases keyIs_shape hv with ⟨i,t,rfl,rfl⟩ | ⟨x,t,rfl,rfl⟩
  ·exact wpAny_pyHash_int h
  ·exact wpAny_pyHash_str h
 eqBool:=fun hu hv h=>by
  rcases keyIs_shape hu with ⟨i,t,rfl,rfl⟩ | ⟨x,t,rfl,rfl⟩
  ·rcases keyIs_shape hv with ⟨j,u,rfl,rfl⟩ | ⟨y,u,rfl,rfl⟩
   ·rw[key_ll] at h; exact wpAny_eqBool_int h
   ·rw[key_lr] at h; exact SeqAt.EqAt.int_str i t y u _ _ _ _ h
  ·rcases keyIs_shape hv with ⟨j,u,rfl,rfl⟩ | ⟨y,u,rfl,rfl⟩
   ·rw[key_rl] at h; exact SeqAt.EqAt.str_int x t j u _ _ _ _ h
   ·rw[key_rr] at h; exact wpAny_eqBool_str h
 «strs»:=fun k x t v h=>by
  rcases keyIs_shape h with ⟨i,u,rfl,e⟩ | ⟨y,u,rfl,e⟩
  ·exact nomatch e
  ·injection e with e1 _
   subst e1
   cases v <;> rfl
theorem mixKind_int (prog:Program)(w:World)(i:Int)(t:Tok):(mixKind prog w).is (.inl i) (.int i t)=true:=keyIs_int i t
theorem mixKind_str (prog:Program)(w:World)(x:Str)(t:Tok):(mixKind prog w).is (.inr x) (.str x t)=true:=keyIs_str x t
inductive V where
 |non | bl (b:Bool) | int (i:Int) | str (x:Str) | byt (b:Array UInt8) | flt (b:UInt64) | ref (a:Addr) | ty (n:String)
 deriving DecidableEq
def RelV:V→Value→Prop
 |.non,u=>u=Value.none
 |.bl b,u=>u=Value.bool b
 |.int i,u=>∃ t,u=Value.int i t
 |.str x,u=>∃ t,u=Value.str x t
 |.byt b,u=>∃ t,u=Value.bytes b t
 |.flt b,u=>∃ t,u=Value.float b t
 |.ref a,u=>u=Value.ref a
 |.ty n,u=>u=Value.type n
abbrev Vals:List V→List Value→Prop:=Paired RelV
theorem Vals.length {xs:List V}{us:List Value}(r:Vals xs us):xs.length=us.length:=Paired.length r
theorem Vals.get:∀ {xs:List V} {us:List Value} {i:Nat} {x:V},Vals xs us→xs[i]?=some x→∃ u,us[i]?=some u∧RelV x u
 |_,_,_,_,.nil,e=>by simp at e
 |_,_,0,_,.cons r _,e=>by simp at e; subst e; exact⟨_,rfl,r⟩
 |_,_,i+1,x,.cons _ t,e=>by
  obtain⟨u,h1,h2⟩:=Vals.get (i:=i) (x:=x) t (by simpa using e)
  exact⟨u,by simpa using h1,h2⟩
theorem Vals.set {x:V}{u:Value}(r:RelV x u):∀ {xs:List V} {us:List Value} (i:Nat),Vals xs us→Vals (xs.set i x) (us.set i u)
 |_,_,_,.nil=>.nil
 |_,_,0,.cons _ t=>.cons r t
 |_,_,i+1,.cons q t=>.cons q (Vals.set r i t)
theorem Vals.append:∀ {xs ys:List V} {us ws:List Value},Vals xs us→Vals ys ws→Vals (xs++ys) (us++ws)
 |_,_,_,_,.nil,s=>s
 |_,_,_,_,.cons r t,s=>.cons r (Vals.append t s)
theorem Vals.take:∀ {xs:List V} {us:List Value} (n:Nat),Vals xs us→Vals (xs.take n) (us.take n)
 |_,_,0,_=>.nil
 |_,_,_+1,.nil=>.nil
 |_,_,n+1,.cons r t=>.cons r (Vals.take n t)
theorem Vals.drop:∀ {xs:List V} {us:List Value} (n:Nat),Vals xs us→Vals (xs.drop n) (us.drop n)
 |_,_,0,r=>r
 |_,_,_+1,.nil=>.nil
 |_,_,n+1,.cons _ t=>Vals.drop n t
def RelO:Option V→Option Value→Prop
 |some v,some u=>RelV v u
 |none,none=>True
 |_,_=>False
def KV {κ:Type}:List (κ×V)→List (κ×Value)→Prop:=Paired fun (p:κ×V) (q:κ×Value)=>p.1=q.1∧RelV p.2 q.2
def kV:Key→V
 |.inl i=>.int i
 |.inr x=>.str x
inductive HO where
 |lst (xs:List V)
 |tup (xs:List V)
 |dK (kvs:List (Key×V)) | dT (kvs:List (List Key×V))
 |set (S:Int→Bool) (n:Nat)
 |ins (C dx:Addr) (fs:List (Str×V))
 |own (x:Addr)
 |xd (fs:List (Str×V))
 |met (f x:Addr)
 |rng (lo hi:Int)
 |frz (o:Obj) (u:HO)
 |tbl (ps:Array Value)
 |ext (φ:Heap→Prop)
abbrev Hp:=Addr→Option HO
def upd (H:Hp)(a:Addr)(o:HO):Hp:=fun b=>if b=a then some o else H b
theorem upd_same {H:Hp}{a:Addr}{o:HO}:upd H a o a=some o:=by unfold upd; rw[if_pos rfl]
theorem upd_ne {H:Hp}{a b:Addr}{o:HO}(h:b≠a):upd H a o b=H b:=by unfold upd; rw[if_neg h]
theorem ne_of {H:Hp}{a b:Addr}{o u:HO}(h:H a=some o)(h':H b=some u)(d:o≠u):a≠b:=by
 intro e; subst e; rw[h] at h'; exact d (Option.some.inj h')
theorem ne_of_none {H:Hp}{a b:Addr}{o:HO}(h:H a=some o)(h':H b=none):a≠b:=by
 intro e; subst e; rw[h] at h'; cases h'
section
variable (P:Program)(w:World)
def ObjOk (H:Hp)(h:Heap)(a:Addr):HO→Prop
 |.lst xs=>xs.length≤sizeLine∧∃ (its:List Value) (n:Nat),Vals xs its∧h.get? a=some { cls:=.type "list",data:=.seq its.toArray n }
 |.tup xs=>xs.length≤sizeLine∧∃ its:List Value,Vals xs its∧IsTup h a its.toArray
 |.dK kvs=>kvs.length≤sizeLine∧(a == sysModules)=false∧∃ vs,KV kvs vs∧h.DictOf (mixKind P w) a vs
 |.dT kvs=>kvs.length≤sizeLine∧(a == sysModules)=false∧∃ xs:List (List Key×Addr×Value),
   Paired (fun (p:List Key×V) (q:List Key×Addr×Value)=>p.1=q.1∧H q.2.1=some (.tup (p.1.map kV))∧RelV p.2 q.2.2) kvs xs ∧
   ∃ o es ep,h.get? a=some o∧o.ExactDict∧o.data=.dict es ep∧es.toList=xs.map (entryOfKey (tupleKind (mixKind P w)))∧(xs.map (·.1)).Nodup
 |.set S n=>h.SetOf (intKind P w) a S n
 |.ins C dx fs=>H dx=some (.own a)∧fs.length≤1000∧dx≠a∧h.get? a=some (PySem.W.instObj C dx) ∧
   ∃ mA,h.Ns1 dx mA∧(∀ f,RelO (fs.lookup f) (mA f))∧PySem.Within mA (fs.map (·.1))
 |.own _=>∃ o,h.get? a=some o
 |.xd fs=>∃ mA,h.Ns1 a mA∧∀ f,RelO (fs.lookup f) (mA f)
 |.rng lo hi=>∃ t u v,h.get? a=some { cls:=.type "range",data:=.fields #[.int lo t,.int hi u,.int 1 v] }
 |.frz o u=>h.get? a=some o∧ObjOk H h a u
 |.tbl ps=>h.get? a=some { cls:=.none,data:=.fields ps }
 |.met f x=>h.get? a=some (PySem.W.methodObj (.ref f) (.ref x))
 |.ext φ=>φ h∧(∃ o,h.get? a=some o)∧∀ h1 h2:Heap,φ h1→(∀ o,h1.get? a=some o→h2.get? a=some o)→φ h2
def HOk (H:Hp)(h:Heap):Prop:=∀ a o,H a=some o→ObjOk P w H h a o
end
section
variable {P:Program}{w:World}{H H':Hp}{h h':Heap}{a:Addr}{o:HO}
theorem ObjOk.lt (x:ObjOk P w H h a o):a<h.objs.size:=by
 cases o with
 |lst xs=>obtain⟨_,_,_,_,e⟩:=x; exact Heap.lt_size e
 |tup xs=>obtain⟨_,_,_,p⟩:=x; exact p.lt
 |dK kvs=>obtain⟨_,_,_,_,o,_,_,e,_⟩:=x; exact Heap.lt_size e
 |dT kvs=>obtain⟨_,_,_,_,o,_,_,e,_⟩:=x; exact Heap.lt_size e
 |set S n=>obtain⟨o,_,_,_,e,_⟩:=x; exact Heap.lt_size e
 |ins C dx fs=>obtain⟨_,_,_,e,_⟩:=x; exact Heap.lt_size e
 |own y=>obtain⟨_,e⟩:=x; exact Heap.lt_size e
 |xd fs=>obtain⟨_,⟨_,_,_,e,_⟩,_⟩:=x; exact Heap.lt_size e
 |rng lo hi=>obtain⟨_,_,_,e⟩:=x; exact Heap.lt_size e
 |frz ob u=>obtain⟨e,_⟩:=x; exact Heap.lt_size e
 |tbl ps=>exact Heap.lt_size (show h.get? a=some _ from x)
 |met f y=>exact Heap.lt_size (show h.get? a=some _ from x)
 |ext φ=>obtain⟨_,⟨_,e⟩,_⟩:=x; exact Heap.lt_size e
theorem Paired.mapP {α β:Type}{F G:α→β→Prop}:∀ {l₁:List α} {l₂:List β},Paired F l₁ l₂→(∀ a b,F a b→G a b)→Paired G l₁ l₂
 |_,_,.nil,_=>.nil
 |_,_,.cons r t,f=>.cons (f _ _ r) (Paired.mapP t f)
theorem ObjOk.stay (x:ObjOk P w H h a o)(k:∀ b u,(b=a∨H b=some (.own a))→h.get? b=some u→h'.get? b=some u)
  (ho:∀ b,H b=some (.own a)→H' b=some (.own a)) (ht:∀ b xs,H b=some (.tup xs)→H' b=some (.tup xs)):ObjOk P w H' h' a o:=by
 induction o with
 |lst xs=>obtain⟨z,its,n,r,e⟩:=x; exact⟨z,its,n,r,k _ _ (.inl rfl) e⟩
 |tup xs=>obtain⟨z,its,r,ob,e,c⟩:=x; exact⟨z,its,r,ob,k _ _ (.inl rfl) e,c⟩
 |dK kvs=>obtain⟨z,y,vs,r,ob,es,ep,e,c⟩:=x; exact⟨z,y,vs,r,ob,es,ep,k _ _ (.inl rfl) e,c⟩
 |dT kvs =>
  obtain⟨z,y,xs,r,ob,es,ep,e,c⟩:=x
  exact⟨z,y,xs,Paired.mapP r fun p q z=>⟨z.1,ht _ _ z.2.1,z.2.2⟩,ob,es,ep,k _ _ (.inl rfl) e,c⟩
 |set S n=>obtain⟨ob,es,ep,t,e,c⟩:=x; exact⟨ob,es,ep,t,k _ _ (.inl rfl) e,c⟩
 |ins C dx fs =>
  obtain⟨d,z,ne,e,mA,⟨od,es,ep,e2,c⟩,r⟩:=x
  exact⟨ho _ d,z,ne,k _ _ (.inl rfl) e,mA,⟨od,es,ep,k _ _ (.inr d) e2,c⟩,r⟩
 |own y=>obtain⟨ob,e⟩:=x; exact⟨ob,k _ _ (.inl rfl) e⟩
 |xd fs=>obtain⟨mA,⟨od,es,ep,e,c⟩,r⟩:=x; exact⟨mA,⟨od,es,ep,k _ _ (.inl rfl) e,c⟩,r⟩
 |rng lo hi=>obtain⟨t,u,v,e⟩:=x; exact⟨t,u,v,k _ _ (.inl rfl) e⟩
 |frz ob u ih=>obtain⟨e,q⟩:=x; exact⟨k _ _ (.inl rfl) e,ih q⟩
 |tbl ps =>
  have e:h.get? a=some { cls:=.none,data:=.fields ps }:=x
  show h'.get? a=some { cls:=.none,data:=.fields ps }
  exact k a _ (.inl rfl) e
 |met f y =>
  have e:h.get? a=some (PySem.W.methodObj (.ref f) (.ref y)):=x
  show h'.get? a=some (PySem.W.methodObj (.ref f) (.ref y))
  exact k a _ (.inl rfl) e
 |ext φ=>obtain⟨p,⟨o,e⟩,st⟩:=x; exact⟨st _ _ p fun o q=>k _ _ (.inl rfl) q,⟨o,k _ _ (.inl rfl) e⟩,st⟩
theorem HOk.lt (x:HOk P w H h)(e:H a=some o):a<h.objs.size:=(x a o e).lt
theorem HOk.fresh (x:HOk P w H h)(e:h.objs.size≤a):H a=none:=by
 cases q:H a with
 |none=>rfl
 |some u=>exact absurd (Nat.lt_of_lt_of_le (x.lt q) e) (Nat.lt_irrefl _)
theorem HOk.kept (x:HOk P w H h)(k:∀ b u,h.get? b=some u→h'.get? b=some u):HOk P w H h':=fun a o e =>
 (x a o e).stay (fun b u _ q=>k b u q) (fun _ q=>q) fun _ _ q=>q
theorem HOk.laid (x:HOk P w H h)(k:∀ b u,h.get? b=some u→h'.get? b=some u)(hp:h.objs.size≤a)(new:ObjOk P w (upd H a o) h' a o):HOk P w (upd H a o) h':=fun b u e=>by
 have hn:=x.fresh hp
 by_cases hb:b=a
 ·subst hb; rw[upd_same] at e; cases e; exact new
 ·rw[upd_ne hb] at e
  exact (x b u e).stay (fun c v _ q=>k c v q) (fun c q=>by rw[upd_ne (ne_of_none q hn)]; exact q) fun c xs q=>by rw[upd_ne (ne_of_none q hn)]; exact q
end
def Rd (H:Hp)(a:Addr)(u:HO):Prop:=H a=some u∨∃ o,H a=some (.frz o u)
theorem Rd.ok {P:Program}{w:World}{H:Hp}{h:Heap}{a:Addr}{u:HO}(r:Rd H a u)(x:HOk P w H h):ObjOk P w H h a u:=by
 rcases r with r | ⟨o,r⟩
 ·exact x a u r
 ·obtain⟨_,q⟩:=x a _ r
  exact q
def Mut:Option HO→Prop
 |some (.lst _)=>True
 |some (.dK _)=>True
 |some (.dT _)=>True
 |some (.set _ _)=>True
 |some (.ins _ _ _)=>True
 |some (.ext _)=>True
 |_=>False
section
variable {P:Program}{w:World}{H:Hp}{h h':Heap}{x e:Addr}{o':HO}
theorem HOk.write (ok:HOk P w H h)(mu:Mut (H x))(he:e=x∨H e=some (.own x))(k:∀ b u,b≠e→h.get? b=some u→h'.get? b=some u)(heo:∃ u,h'.get? e=some u)
  (new:ObjOk P w (upd H x o') h' x o'):HOk P w (upd H x o') h':=fun b u q=>by
 have nown:∀ c y,H c=some (.own y)→c≠x:=fun c y r z=>by subst z; rw[r] at mu; exact mu
 have ntup:∀ c xs,H c=some (.tup xs)→c≠x:=fun c xs r z=>by subst z; rw[r] at mu; exact mu
 by_cases hb:b=x
 ·subst hb; rw[upd_same] at q; cases q; exact new
 ·rw[upd_ne hb] at q
  by_cases hbe:b=e
  ·have q':H b=some (.own x):=by
    rcases he with z | z
    ·exact absurd (hbe.trans z) hb
    ·rw[hbe]; exact z
   rw[q] at q'; cases q'
   obtain⟨v,hv⟩:=heo
   exact⟨v,by rw[hbe]; exact hv⟩
  ·refine (ok b u q).stay (fun c v hc r=>k c v ?_ r) (fun c r=>by rw[upd_ne (nown c b r)]; exact r) fun c xs r=>by rw[upd_ne (ntup c xs r)]; exact r
   rcases hc with rfl | hc
   ·exact hbe
   ·rintro rfl
    rcases he with z | z
    ·exact nown c b hc z
    ·rw[hc] at z; cases z; exact hb rfl
end
structure Un (fs ex:List Addr)(H H':Hp)(h h':Heap):Prop where
 keep:∀ b o,h.get? b=some o→H b=none→b∉fs→b∉ex→h'.get? b=some o
 slot:∀ b o,h.get? b=some o→H b=none→b∈fs→b∉ex→∃ sl,h'.get? b=some { o with slots:=sl }
 free:∀ b o,h.get? b=some o→H b=none→b∉ex→H' b=none
 there:∀ b o,h.get? b=some o→b∉ex→∃ o',h'.get? b=some o'
 tups:∀ b xs,H b=some (.tup xs)→H' b=some (.tup xs)
 frzs:∀ b o u,H b=some (.frz o u)→H' b=some (.frz o u)
 tbls:∀ b ps,H b=some (.tbl ps)→∃ more,H' b=some (.tbl (ps++more))
section
variable {fs fs' ex ex':List Addr}{H H1 H2:Hp}{h h1 h2 h':Heap}{a x e:Addr}{o:HO}
theorem Un.any (u:Un fs ex H H1 h h1){b:Addr}{ob:Obj}(q:h.get? b=some ob)(n:H b=none)(hx:b∉ex):∃ sl,h1.get? b=some { ob with slots:=sl }:=by
 by_cases hb:b∈fs
 ·exact u.slot b ob q n hb hx
 ·exact⟨ob.slots,u.keep b ob q n hb hx⟩
theorem Un.kept (k:∀ b u,h.get? b=some u→h'.get? b=some u):Un fs ex H H h h' :=
 ⟨fun b ob q _ _ _=>k b ob q,fun b ob q _ _ _=>⟨ob.slots,k b ob q⟩,fun _ _ _ n _=>n,fun b ob q _=>⟨ob,k b ob q⟩,fun _ _ q=>q,fun _ _ _ q=>q,fun _ ps q=>⟨#[],by rw[q]; simp⟩⟩
theorem Un.refl:Un fs ex H H h h:=Un.kept fun _ _ q=>q
theorem Un.laid (k:∀ b u,h.get? b=some u→h'.get? b=some u)(hp:h.objs.size≤a)(hn:H a=none):Un fs ex H (upd H a o) h h' where
 keep:=fun b u q _ _ _=>k b u q
 slot:=fun b u q _ _ _=>⟨u.slots,k b u q⟩
 free:=fun b u q n _=>by rw[upd_ne (Nat.ne_of_lt (Nat.lt_of_lt_of_le (Heap.lt_size q) hp))]; exact n
 there:=fun b u q _=>⟨u,k b u q⟩
 tups:=fun b xs q=>by rw[upd_ne (ne_of_none q hn)]; exact q
 frzs:=fun b u xs q=>by rw[upd_ne (ne_of_none q hn)]; exact q
 tbls:=fun b ps q=>⟨#[],by rw[upd_ne (ne_of_none q hn),q]; simp⟩
theorem Un.write (mu:Mut (H x))(he:e=x∨H e=some (.own x))(k:∀ b u,b≠e→h.get? b=some u→h'.get? b=some u)(heo:∃ u,h'.get? e=some u):Un fs ex H (upd H x o) h h':=by
 have hx:∀ b,H b=none→b≠x:=fun b n z=>by subst z; rw[n] at mu; exact mu
 have hb:∀ b,H b=none→b≠e:=fun b n z=>by
  subst z
  rcases he with r | r
  ·exact hx b n r
  ·rw[n] at r; cases r
 have hm:∀ b u,H b=some u→¬ Mut (some u)→b≠x:=fun b u q nm z=>by subst z; rw[q] at mu; exact nm mu
 refine⟨fun b u q n _ _=>k b u (hb b n) q,fun b u q n _ _=>⟨u.slots,k b u (hb b n) q⟩,fun b u q n _=>by rw[upd_ne (hx b n)]; exact n,fun b u q _=>?_,
  fun b xs q=>by rw[upd_ne (hm b _ q fun z=>z)]; exact q,fun b u xs q=>by rw[upd_ne (hm b _ q fun z=>z)]; exact q,fun b ps q=>⟨#[],by rw[upd_ne (hm b _ q fun z=>z),q]; simp⟩⟩
 by_cases hbe:b=e
 ·subst hbe; exact heo
 ·exact⟨u,k b u hbe q⟩
theorem Un.mono (u:Un fs ex H H1 h h1)(hs:∀ b∈fs,b∈fs')(hx:∀ b∈ex,b∈ex'):Un fs' ex' H H1 h h1 :=
 ⟨fun b ob q n hb he=>u.keep b ob q n (fun z=>hb (hs b z)) fun z=>he (hx b z),fun _ _ q n _ he=>u.any q n fun z=>he (hx _ z),fun b ob q n he=>u.free b ob q n fun z=>he (hx b z),fun b ob q he=>u.there b ob q fun z=>he (hx b z),u.tups,u.frzs,u.tbls⟩
end
def trk (h:Heap)(H:Hp):List Addr:=(List.range h.objs.size).filter fun a=>(H a).isSome
def hidT (h:Heap)(H:Hp):Heap:=PySem.W.hideAll h (trk h H)
theorem hidT_size (h:Heap)(H:Hp):(hidT h H).objs.size=h.objs.size:=PySem.W.hideAll_size _ _
theorem hidT_get {h:Heap}{H:Hp}{b:Addr}{o:Obj}(e:h.get? b=some o)(n:H b=none):(hidT h H).get? b=some o :=
 PySem.W.hideAll_get _ e fun hm=>by
  have q:(H b).isSome=true:=(List.mem_filter.mp hm).2
  rw[n] at q; simp at q
theorem of_hidT {h:Heap}{H:Hp}{b:Addr}{o:Obj}(e:(hidT h H).get? b=some o):h.get? b=some o∧H b=none:=by
 have e':h.get? b=some o:=PySem.W.of_hideAll (trk h H) e
 refine⟨e',?_⟩
 cases q:H b with
 |none=>rfl
 |some x =>
  have hm:b∈trk h H:=List.mem_filter.mpr ⟨List.mem_range.mpr (Heap.lt_size e'),by simp[q]⟩
  have z:(hidT h H).get? b=none:=PySem.W.hideAll_none (trk h H) hm
  rw[z] at e; cases e
structure Mod (K:PySem.W.Frag)(mg:Str→Option Value)(base:Heap):Prop where
 kin:K.In base
 glob:base.Ns mainGlobals mg
 blt:∃ mb,base.Ns builtinsNs mb∧∀ x:Str,x≠"__name__"→mb x=bootBuiltins x
 nolimit:base.NoLimit
structure Cx where
 prog:Program
 w:World
 K:PySem.W.Frag
 mg:Str→Option Value
 base:Heap
 A:Around
 N:List Str
 s₀:Shared
 H₀:Hp
 env:Env
 outer:List Env
 stack:List Env
 ex:List Addr
 fn:Str→Bool
 calm:Bool
 pn:List (Addr×Obj)
 xe:Value→Shared→Prop
def frs (l:List Env):List Addr:=l.filterMap (·.frame)
abbrev Cx.fs (X:Cx):List Addr:=frs X.outer
def Vis (sc:Scope)(x:Str):Prop:=sc.names.lookup x=some .local∨sc.names.lookup x=some .cell∨sc.names.lookup x=some .free
def Loc (sc:Scope)(x:Str):Prop:=sc.names.lookup x=some .local∨sc.names.lookup x=some .cell
def Look (env:Env)(h:Heap)(m:Str→Option Value)(x:Str)(u:Value):Prop :=
 (env.kindOf x=some .local∧m x=some u)∨((env.kindOf x=some .cell∨env.kindOf x=some .free)∧∃ c,env.cells.lookup x=some c∧h.IsCell c (some u))
structure Cx.Ok (X:Cx):Prop where
 mod:Mod X.K X.mg X.base
 kind:X.env.scope.kind=.function
 glob:X.env.globals=mainGlobals
 blt:X.env.builtins=builtinsNs
 above:X.s₀.heap.objs.size≤X.env.locals
 inj:∀ x y c,X.env.cells.lookup x=some c→X.env.cells.lookup y=some c→x=y
 has:∀ x,(X.env.kindOf x=some .cell∨X.env.kindOf x=some .free)→∃ c,X.env.cells.lookup x=some c
 cab:∀ x c,X.fn x=true→X.env.cells.lookup x=some c→X.s₀.heap.objs.size≤c
 hd:X.calm=true→X.A.handled=none
 frames:X.A.frames=some X.stack
 stk:X.stack=X.outer∨(X.stack=X.env::X.outer∧X.env.frame=some X.env.locals)
 exf:∀ b∈X.ex,b≠X.env.locals∧∀ x c,X.env.cells.lookup x=some c→c≠b
 bs:∀ b o,X.base.get? b=some o→X.s₀.heap.get? b=some o∧X.H₀ b=none
 bsz:X.base.objs.size≤X.s₀.heap.objs.size
 noex:∀ b o,X.base.get? b=some o→b∉X.ex
 exfs:∀ b∈X.ex,b∉X.fs
 funs:X.s₀.heap.FunFrames X.base X.outer
 frf:∀ b∈X.fs,X.H₀ b=none
structure Inv (X:Cx)(pins:List (Addr×Obj))(σ:List (Option V))(H:Hp)(s:Shared):Prop where
 ok:X.Ok
 os:s.os=X.s₀.os
 bare:AllBare s.gens
 base:Un X.fs X.ex X.H₀ H X.s₀.heap s.heap
 loc:∃ m,s.heap.Ns X.env.locals m∧∀ (i:Nat) (x:Str) (v:V),X.N[i]?=some x→σ[i]?=some (some v)→Vis X.env.scope x→∃ u,RelV v u∧Look X.env s.heap m x u
 cell:∀ x c,X.env.cells.lookup x=some c→∃ v,s.heap.IsCell c v
 free:H X.env.locals=none
 freeC:∀ x c,X.env.cells.lookup x=some c→H c=none
 pin:∀ p∈X.pn++pins,s.heap.get? p.1=some p.2∧H p.1=none∧p.1≠X.env.locals∧p.1∉X.fs∧∀ v,p.2.data≠.cell v
 hok:HOk X.prog X.w H s.heap
 len:σ.length=X.N.length
section
variable {X:Cx}{pins:List (Addr×Obj)}{σ:List (Option V)}{H H':Hp}{s:Shared}{h':Heap}
theorem Cx.Ok.nofr (ok:X.Ok){b:Addr}{o:Obj}(e:X.base.get? b=some o):b∉X.fs:=fun hb=>by
 have:=(ok.funs.mem hb).1
 rw[e] at this; cases this
theorem Inv.bs (I:Inv X pins σ H s):∀ b o,X.base.get? b=some o→s.heap.get? b=some o∧H b=none:=fun b o e =>
 ⟨I.base.keep b o (I.ok.bs b o e).1 (I.ok.bs b o e).2 (I.ok.nofr e) (I.ok.noex b o e),I.base.free b o (I.ok.bs b o e).1 (I.ok.bs b o e).2 (I.ok.noex b o e)⟩
theorem Inv.bk (I:Inv X pins σ H s):∀ b o,X.base.get? b=some o→s.heap.get? b=some o:=fun b o e=>(I.bs b o e).1
theorem Inv.mod (I:Inv X pins σ H s):Mod X.K X.mg X.base:=I.ok.mod
theorem Inv.kIn (I:Inv X pins σ H s):X.K.In s.heap:=I.ok.mod.kin.keeps I.bk
theorem Inv.lt (I:Inv X pins σ H s):X.env.locals<s.heap.objs.size:=let ⟨_,hn,_⟩:=I.loc; hn.lt
theorem Inv.sz (I:Inv X pins σ H s):X.s₀.heap.objs.size≤s.heap.objs.size:=Nat.le_trans I.ok.above (Nat.le_of_lt I.lt)
theorem Inv.nofs (I:Inv X pins σ H s){a:Addr}(h:s.heap.objs.size≤a):a∉X.fs:=fun hb=>by
 obtain⟨_,o,ho,_⟩:=I.ok.funs.mem hb
 exact absurd (Nat.lt_of_lt_of_le (Heap.lt_size ho) (Nat.le_trans I.sz h)) (Nat.lt_irrefl _)
theorem Inv.cne (I:Inv X pins σ H s):∀ x c,X.env.cells.lookup x=some c→c≠X.env.locals:=fun x c e z=>by
 obtain⟨v,o,ho,hd⟩:=I.cell x c e
 obtain⟨m,⟨o',es,ep,ho',hd',_⟩,_⟩:=I.loc
 rw[z,ho'] at ho; cases ho; rw[hd'] at hd; cases hd
theorem Inv.funs (I:Inv X pins σ H s):s.heap.FunFrames X.base X.outer:=by
 have all:∀ (l:List Env),(∀ b∈frs l,b∈X.fs)→X.s₀.heap.FunFrames X.base l→s.heap.FunFrames X.base l:=by
  intro l
  induction l with
  |nil=>intro _ _; trivial
  |cons env r ih =>
   intro hs hl
   obtain⟨hk,⟨L,o,hf,hn,ho,hd⟩,hr⟩:=hl
   have hL:L∈X.fs:=hs L (by unfold frs; rw[List.filterMap_cons,hf]; exact List.mem_cons_self)
   obtain⟨sl,e⟩:=I.base.slot L o ho (I.ok.frf L hL) hL fun z=>I.ok.exfs L z hL
   exact⟨hk,⟨L,_,hf,hn,e,hd⟩,ih (fun b hb=>hs b (by unfold frs; rw[List.filterMap_cons,hf]; exact List.mem_cons_of_mem _ hb)) hr⟩
 exact all X.outer (fun _ hb=>hb) I.ok.funs
theorem Inv.stack (I:Inv X pins σ H s):s.heap.FunFrames X.base X.stack:=by
 rcases I.ok.stk with e | ⟨e,hf⟩
 ·rw[e]; exact I.funs
 ·rw[e]
  obtain⟨m,hn,_⟩:=I.loc
  refine .cons (by rw[I.ok.kind]; decide) hf hn ?_ I.funs
  exact Heap.get?_none_of_le (Nat.le_trans I.ok.bsz I.ok.above)
theorem Inv.stkSub (I:Inv X pins σ H s):∀ b∈frs X.stack,b∈X.env.locals::X.fs:=fun b hb=>by
 rcases I.ok.stk with e | ⟨e,hf⟩
 ·rw[e] at hb; exact List.mem_cons_of_mem _ hb
 ·rw[e] at hb
  unfold frs at hb
  rw[List.filterMap_cons,hf] at hb
  exact hb
theorem Inv.stkFree (I:Inv X pins σ H s):∀ b∈frs X.stack,H b=none:=fun b hb=>by
 rcases List.mem_cons.mp (I.stkSub b hb) with e | hb
 ·rw[e]; exact I.free
 ·obtain⟨_,o,ho,_⟩:=I.ok.funs.mem hb
  exact I.base.free b o ho (I.ok.frf b hb) fun z=>I.ok.exfs b z hb
theorem Inv.step {g':Array GenState}{t':Nat}{d':Drawn}{ch:List Addr}(I:Inv X pins σ H s)
  (hch:∀ b∈ch,(b∈X.ex∨X.s₀.heap.objs.size≤b)∧b≠X.env.locals∧(∀ x c,X.env.cells.lookup x=some c→c≠b)∧∀ p∈X.pn++pins,p.1≠b)
  (keep:∀ b o,b≠X.env.locals→b∉X.fs→b∉ch→s.heap.get? b=some o→H b=none→h'.get? b=some o)
  (slot:∀ b o,b≠X.env.locals→b∈X.fs→b∉ch→s.heap.get? b=some o→H b=none→∃ sl,h'.get? b=some { o with slots:=sl }) (free:∀ b o,b∉ch→s.heap.get? b=some o→H b=none→H' b=none)
  (there:∀ b o,b∉ch→s.heap.get? b=some o→∃ o',h'.get? b=some o')
  (tups:∀ b xs,H b=some (.tup xs)→H' b=some (.tup xs)) (frzs:∀ b o u,H b=some (.frz o u)→H' b=some (.frz o u)) (tbls:∀ b ps,H b=some (.tbl ps)→∃ more,H' b=some (.tbl (ps++more)))
  (ns:∀ m,s.heap.Ns X.env.locals m→h'.Ns X.env.locals m) (hok:HOk X.prog X.w H' h') (hg:AllBare g') :
  Inv X pins σ H' { s with heap:=h',gens:=g',drawn:=d',toks:=t' }:=by
 have neL:∀ b o,X.s₀.heap.get? b=some o→b≠X.env.locals:=fun b o e=>Nat.ne_of_lt (Nat.lt_of_lt_of_le (Heap.lt_size e) I.ok.above)
 have neC:∀ b o,X.s₀.heap.get? b=some o→b∉X.ex→b∉ch:=fun b o e hx hb=>by
  rcases (hch b hb).1 with z | z
  ·exact hx z
  ·exact absurd (Nat.lt_of_lt_of_le (Heap.lt_size e) z) (Nat.lt_irrefl _)
 have cellK:∀ x c,X.env.cells.lookup x=some c→∀ v,s.heap.IsCell c v→h'.IsCell c v:=fun x c e v ⟨o,ho,hd⟩=>by
  have nch:c∉ch:=fun z=>(hch c z).2.2.1 x c e rfl
  by_cases hc:c∈X.fs
  ·obtain⟨sl,q⟩:=slot c o (I.cne x c e) hc nch ho (I.freeC x c e)
   exact⟨_,q,hd⟩
  ·exact⟨o,keep c o (I.cne x c e) hc nch ho (I.freeC x c e),hd⟩
 refine⟨I.ok,I.os,hg,⟨fun b o e n hb hx=>?_,fun b o e n hb hx=>?_,fun b o e n hx=>?_,fun b o e hx=>?_,fun b xs e=>tups b xs (I.base.tups b xs e),fun b o xs e=>frzs b o xs (I.base.frzs b o xs e),fun b ps e=>?_⟩,?_,fun x c e=>?_,?_,fun x c e=>?_,fun p hp=>?_,hok,I.len⟩
 ·exact keep b o (neL b o e) hb (neC b o e hx) (I.base.keep b o e n hb hx) (I.base.free b o e n hx)
 ·obtain⟨sl,e1⟩:=I.base.slot b o e n hb hx
  obtain⟨sl',e2⟩:=slot b _ (neL b o e) hb (neC b o e hx) e1 (I.base.free b o e n hx)
  exact⟨sl',e2⟩
 ·obtain⟨o',e1⟩:=I.base.there b o e hx
  exact free b o' (neC b o e hx) e1 (I.base.free b o e n hx)
 ·obtain⟨o',e1⟩:=I.base.there b o e hx
  exact there b o' (neC b o e hx) e1
 ·obtain⟨m1,e1⟩:=I.base.tbls b ps e
  obtain⟨m2,e2⟩:=tbls b _ e1
  exact⟨m1++m2,by rw[e2,Array.append_assoc]⟩
 ·obtain⟨m,hn,hl⟩:=I.loc
  refine⟨m,ns m hn,fun i x v e1 e2 e3=>?_⟩
  obtain⟨u,r,l⟩:=hl i x v e1 e2 e3
  refine⟨u,r,?_⟩
  rcases l with l | ⟨k,c,e,z⟩
  ·exact .inl l
  ·exact .inr ⟨k,c,e,cellK x c e _ z⟩
 ·obtain⟨v,z⟩:=I.cell x c e
  exact⟨v,cellK x c e v z⟩
 ·obtain⟨m,⟨o,_,_,ho,_⟩,_⟩:=I.loc
  exact free _ o (fun z=>(hch _ z).2.1 rfl) ho I.free
 ·obtain⟨v,o,ho,hd⟩:=I.cell x c e
  exact free c o (fun z=>(hch c z).2.2.1 x c e rfl) ho (I.freeC x c e)
 ·obtain⟨e,n,ne,nf,d⟩:=I.pin p hp
  have nch:p.1∉ch:=fun z=>(hch p.1 z).2.2.2 p hp rfl
  exact⟨keep p.1 p.2 ne nf nch e n,free p.1 p.2 nch e n,ne,nf,d⟩
theorem Inv.un {t':Nat}(I:Inv X pins σ H s)(u:Un X.fs [] H H' s.heap h')(hok:HOk X.prog X.w H' h'):Inv X pins σ H' { s with heap:=h',toks:=t' }:=by
 obtain⟨m,⟨o,es,ep,ho,r⟩,_⟩:=id I.loc
 obtain⟨sl,hL⟩:=u.any ho I.free (by simp)
 exact I.step (g':=s.gens) (d':=s.drawn) (ch:=[]) (fun _ z=>nomatch z) (fun b o _ hb _ e n=>u.keep b o e n hb (by simp)) (fun b o _ hb _ e n=>u.slot b o e n hb (by simp)) (fun b o _ e n=>u.free b o e n (by simp)) (fun b o _ e=>u.there b o e (by simp)) u.tups u.frzs u.tbls (fun m' hm=>by
  obtain⟨o',es',ep',ho',r'⟩:=hm
  rw[ho] at ho'; cases ho'
  exact⟨_,es',ep',hL,r'⟩) hok I.bare
theorem Inv.call {g':Array GenState}{t':Nat}{d':Drawn}{ch:List Addr}(I:Inv X pins σ H s)(u:Un (frs X.stack) ch H H' s.heap h')(hok:HOk X.prog X.w H' h')(hg:AllBare g')
  (hch:∀ b∈ch,(b∈X.ex∨X.s₀.heap.objs.size≤b)∧b≠X.env.locals∧(∀ x c,X.env.cells.lookup x=some c→c≠b)∧∀ p∈X.pn++pins,p.1≠b) :
  Inv X pins σ H' { s with heap:=h',gens:=g',drawn:=d',toks:=t' }:=by
 obtain⟨m,⟨o,es,ep,ho,r⟩,_⟩:=id I.loc
 obtain⟨sl,hL⟩:=u.any ho I.free fun z=>(hch _ z).2.1 rfl
 exact I.step (ch:=ch) hch (fun b o hL hb hc e n=>u.keep b o e n (fun z=>(List.mem_cons.mp (I.stkSub b z)).elim hL hb) hc) (fun b o _ _ hc e n=>u.any e n hc) (fun b o hc e n=>u.free b o e n hc) (fun b o hc e=>u.there b o e hc) u.tups u.frzs u.tbls (fun m' hm=>by
  obtain⟨o',es',ep',ho',r'⟩:=hm
  rw[ho] at ho'; cases ho'
  exact⟨_,es',ep',hL,r'⟩) hok hg
theorem Inv.turned {t':Nat}{it:Addr}(I:Inv X pins σ H s)(k:∀ b o,b≠it→s.heap.get? b=some o→h'.get? b=some o)(hn:H it=none)(hL:it≠X.env.locals)
  (h1:it∈X.ex∨X.s₀.heap.objs.size≤it) (h2:∀ x c,X.env.cells.lookup x=some c→c≠it) (h3:∀ p∈X.pn++pins,p.1≠it):Inv X pins σ H { s with heap:=h',toks:=t' }:=by
 have nit:∀ b u,H b=some u→b≠it:=fun b u e z=>by rw[z,hn] at e; cases e
 refine I.step (g':=s.gens) (d':=s.drawn) (ch:=[it]) (fun b hb=>?_) (fun b o _ _ hc e _=>k b o (fun z=>hc (by simp[z])) e) (fun b o _ _ hc e _=>⟨o.slots,k b o (fun z=>hc (by simp[z])) e⟩) (fun _ _ _ _ n=>n)
  (fun b o hc e=>⟨o,k b o (fun z=>hc (by simp[z])) e⟩) (fun _ _ e=>e) (fun _ _ _ e=>e) (fun b ps e=>⟨#[],by rw[e]; simp⟩) (fun m hm=>?_) (fun b u e=>?_) I.bare
 ·have e:b=it:=by simpa using hb
  subst e
  exact⟨h1,hL,h2,h3⟩
 ·obtain⟨o,es,ep,ho,r⟩:=hm
  exact⟨o,es,ep,k _ o (Ne.symm hL) ho,r⟩
 ·refine (I.hok b u e).stay (fun c v hc q=>k c v ?_ q) (fun _ q=>q) fun _ _ q=>q
  rcases hc with z | z
  ·rw[z]; exact nit b u e
  ·exact nit c _ z
theorem Inv.tok (I:Inv X pins σ H s)(t:Nat):Inv X pins σ H { s with toks:=t }:=I.un (h':=s.heap) (t':=t) Un.refl I.hok
theorem Inv.kept {t':Nat}(I:Inv X pins σ H s)(k:∀ b u,s.heap.get? b=some u→h'.get? b=some u):Inv X pins σ H { s with heap:=h',toks:=t' }:=I.un (Un.kept k) (I.hok.kept k)
theorem Inv.laid {a:Addr}{o:HO}{t':Nat}(I:Inv X pins σ H s)(k:∀ b u,s.heap.get? b=some u→h'.get? b=some u)(hp:s.heap.objs.size≤a)(new:ObjOk X.prog X.w (upd H a o) h' a o) :
  Inv X pins σ (upd H a o) { s with heap:=h',toks:=t' }:=I.un (Un.laid k hp (I.hok.fresh hp)) (I.hok.laid k hp new)
theorem Inv.write {x e:Addr}{o:HO}{t':Nat}(I:Inv X pins σ H s)(mu:Mut (H x))(he:e=x∨H e=some (.own x))(k:∀ b u,b≠e→s.heap.get? b=some u→h'.get? b=some u)(heo:∃ u,h'.get? e=some u)
  (new:ObjOk X.prog X.w (upd H x o) h' x o):Inv X pins σ (upd H x o) { s with heap:=h',toks:=t' }:=I.un (Un.write mu he k heo) (I.hok.write mu he k heo new)
theorem Inv.weak {σ':List (Option V)}(I:Inv X pins σ H s)(hl:σ'.length=σ.length)(w:∀ (i:Nat) v,σ'[i]?=some (some v)→σ[i]?=some (some v)):Inv X pins σ' H s :=
 ⟨I.ok,I.os,I.bare,I.base,let ⟨m,hn,hl'⟩:=I.loc; ⟨m,hn,fun i x v e1 e2 e3=>hl' i x v e1 (w i v e2) e3⟩,I.cell,I.free,I.freeC,I.pin,I.hok,hl.trans I.len⟩
theorem Inv.pins_of {pins':List (Addr×Obj)}(I:Inv X pins σ H s)(h:∀ p∈pins',s.heap.get? p.1=some p.2∧H p.1=none∧p.1≠X.env.locals∧p.1∉X.fs∧∀ v,p.2.data≠.cell v):Inv X pins' σ H s :=
 ⟨I.ok,I.os,I.bare,I.base,I.loc,I.cell,I.free,I.freeC,fun p hp=>(List.mem_append.mp hp).elim (fun z=>I.pin p (List.mem_append_left _ z)) (h p),I.hok,I.len⟩
theorem nodup_ix {N:List Str}(hN:N.Nodup){i j:Nat}{x:Str}(a:N[i]?=some x)(b:N[j]?=some x):i=j:=by
 obtain⟨h1,e1⟩:=List.getElem?_eq_some_iff.mp a
 obtain⟨h2,e2⟩:=List.getElem?_eq_some_iff.mp b
 exact (List.getElem_inj hN).mp (e1.trans e2.symm)
theorem store_ok2 {M:Model}{A:Around}{E:Value→Shared→Prop}{i:Nat}{x:Str}{v:V}{u:Value}{Q:Unit→Shared→Prop}(I:Inv X pins σ H s)(hN:X.N.Nodup)(hi:X.N[i]?=some x)(hx:Loc X.env.scope x)(r:RelV v u)
  (h:∀ s',Inv X pins (σ.set i (some v)) H s'→(∃ a,Heap.SameBut a s.heap s'.heap∧(a=X.env.locals∨X.env.cells.lookup x=some a))→Q () s') (hf:X.fn x=true∨X.env.scope.names.lookup x=some .local:=by first | exact .inl rfl | exact .inr rfl | assumption):wpAny M A (storeName X.env x u) Q E s:=by
 obtain⟨m,hn,hl⟩:=id I.loc
 have hcls:(X.env.scope.kind == .class||(X.env.scope.kind == .module&&X.env.locals != X.env.globals))=false:=by rw[I.ok.kind]; rfl
 have hiσ:i<σ.length:=by rw[I.len]; exact (List.getElem?_eq_some_iff.mp hi).1
 have cne:=I.cne
 have tracked:∀ {a:Addr} {h':Heap},(∃ o,s.heap.get? a=some o∧H a=none)→Heap.SameBut a s.heap h'→HOk X.prog X.w H h':=fun {a h'} ha hs b ob e=>by
  obtain⟨_,_,hfree⟩:=ha
  refine (I.hok b ob e).stay (fun c w' hc q=>(hs.2 c ?_).trans q) (fun _ q=>q) fun _ _ q=>q
  rintro rfl
  rcases hc with rfl | hc
  ·rw[hfree] at e; cases e
  ·rw[hfree] at hc; cases hc
 rcases hx with hk | hk
 ·refine wpAny_storeName_local hk hn (fun h' hn' hs=>?_) hcls
  obtain⟨oL,_,_,hoL,_⟩:=id hn
  refine h _ ⟨I.ok,I.os,I.bare,⟨fun b o e n hb hx=>?_,fun b o e n hb hx=>?_,I.base.free,fun b o e hx=>?_,I.base.tups,I.base.frzs,I.base.tbls⟩,⟨_,hn',fun j y v' e1 e2 e3=>?_⟩,fun y c e=>?_,I.free,I.freeC,fun p hp=>?_,tracked ⟨oL,hoL,I.free⟩ hs,by simpa using I.len⟩ ⟨_,hs,.inl rfl⟩
  ·exact (hs.2 b (Nat.ne_of_lt (Nat.lt_of_lt_of_le (Heap.lt_size e) I.ok.above))).trans (I.base.keep b o e n hb hx)
  ·obtain⟨sl,e1⟩:=I.base.slot b o e n hb hx
   exact⟨sl,(hs.2 b (Nat.ne_of_lt (Nat.lt_of_lt_of_le (Heap.lt_size e) I.ok.above))).trans e1⟩
  ·obtain⟨o',e1⟩:=I.base.there b o e hx
   exact⟨o',(hs.2 b (Nat.ne_of_lt (Nat.lt_of_lt_of_le (Heap.lt_size e) I.ok.above))).trans e1⟩
  ·by_cases hj:j=i
   ·subst hj
    rw[hi] at e1; cases e1
    rw[List.getElem?_set_self hiσ] at e2
    cases e2
    exact⟨u,r,.inl ⟨hk,by simp⟩⟩
   ·rw[List.getElem?_set_ne (Ne.symm hj)] at e2
    obtain⟨u',r',q⟩:=hl j y v' e1 e2 e3
    refine⟨u',r',?_⟩
    rcases q with ⟨k,e⟩ | ⟨k,c,e,z⟩
    ·refine .inl ⟨k,?_⟩
     have:y≠x:=fun e=>hj (nodup_ix hN e1 (e ▸ hi))
     simp[this,e]
    ·exact .inr ⟨k,c,e,z.sameBut hs (cne y c e)⟩
  ·obtain⟨w',z⟩:=I.cell y c e
   exact⟨w',z.sameBut hs (cne y c e)⟩
  ·obtain⟨e,n,ne,nf,d⟩:=I.pin p hp
   exact⟨(hs.2 p.1 ne).trans e,n,ne,nf,d⟩
 ·have hfn:X.fn x=true:=by
   rcases hf with z | z
   ·exact z
   ·rw[z] at hk; cases hk
  obtain⟨c,hc⟩:=I.ok.has x (.inl hk)
  obtain⟨w',z⟩:=I.cell x c hc
  refine wpAny_storeName_cell I.ok.kind hk hc z (fun h' hc' hs=>?_)
  obtain⟨oc,hoc,hocd⟩:=id z
  refine h { s with heap:=h' } ⟨I.ok,I.os,I.bare,⟨fun b o e n hb hx=>?_,fun b o e n hb hx=>?_,I.base.free,fun b o e hx=>?_,I.base.tups,I.base.frzs,I.base.tbls⟩,⟨m,hn.sameBut hs (Ne.symm (cne x c hc)),fun j y v' e1 e2 e3=>?_⟩,fun y c' e=>?_,I.free,I.freeC,fun p hp=>?_,tracked ⟨oc,hoc,I.freeC x c hc⟩ hs,by simpa using I.len⟩ ⟨c,hs,.inr hc⟩
  ·exact (hs.2 b (Nat.ne_of_lt (Nat.lt_of_lt_of_le (Heap.lt_size e) (I.ok.cab x c hfn hc)))).trans (I.base.keep b o e n hb hx)
  ·obtain⟨sl,e1⟩:=I.base.slot b o e n hb hx
   exact⟨sl,(hs.2 b (Nat.ne_of_lt (Nat.lt_of_lt_of_le (Heap.lt_size e) (I.ok.cab x c hfn hc)))).trans e1⟩
  ·obtain⟨o',e1⟩:=I.base.there b o e hx
   exact⟨o',(hs.2 b (Nat.ne_of_lt (Nat.lt_of_lt_of_le (Heap.lt_size e) (I.ok.cab x c hfn hc)))).trans e1⟩
  ·by_cases hj:j=i
   ·subst hj
    rw[hi] at e1; cases e1
    rw[List.getElem?_set_self hiσ] at e2
    cases e2
    exact⟨u,r,.inr ⟨.inl hk,c,hc,hc'⟩⟩
   ·rw[List.getElem?_set_ne (Ne.symm hj)] at e2
    obtain⟨u',r',q⟩:=hl j y v' e1 e2 e3
    refine⟨u',r',?_⟩
    rcases q with q | ⟨k,c',e,z'⟩
    ·exact .inl q
    ·refine .inr ⟨k,c',e,z'.sameBut hs ?_⟩
     rintro rfl
     exact hj (nodup_ix hN e1 (I.ok.inj _ _ _ e hc ▸ hi))
  ·by_cases hcc:c'=c
   ·subst hcc; exact⟨_,hc'⟩
   ·obtain⟨w2,z2⟩:=I.cell y c' e
    exact⟨w2,z2.sameBut hs hcc⟩
  ·obtain⟨e,n,ne,nf,d⟩:=I.pin p hp
   refine⟨(hs.2 p.1 ?_).trans e,n,ne,nf,d⟩
   intro q
   rw[q,hoc] at e
   have q':oc=p.2:=Option.some.inj e
   exact d w' (by rw[← q']; exact hocd)
theorem store_ok {M:Model}{A:Around}{E:Value→Shared→Prop}{i:Nat}{x:Str}{v:V}{u:Value}{Q:Unit→Shared→Prop}(I:Inv X pins σ H s)(hN:X.N.Nodup)(hi:X.N[i]?=some x)(hx:Loc X.env.scope x)(r:RelV v u)
  (h:∀ s',Inv X pins (σ.set i (some v)) H s'→Q () s') (hf:X.fn x=true∨X.env.scope.names.lookup x=some .local:=by first | exact .inl rfl | exact .inr rfl | assumption):wpAny M A (storeName X.env x u) Q E s :=
 store_ok2 I hN hi hx r (fun s' I' _=>h s' I') hf
theorem Inv.call' {s':Shared}{ch:List Addr}(I:Inv X pins σ H s)(ho:s'.os=s.os)(u:Un (frs X.stack) ch H H' s.heap s'.heap)(hok:HOk X.prog X.w H' s'.heap)(hg:AllBare s'.gens)
  (hch:∀ b∈ch,(b∈X.ex∨X.s₀.heap.objs.size≤b)∧b≠X.env.locals∧(∀ x c,X.env.cells.lookup x=some c→c≠b)∧∀ p∈X.pn++pins,p.1≠b):Inv X pins σ H' s':=by
 obtain⟨h',g',d',t',o'⟩:=s'
 have e:o'=s.os:=ho
 subst e
 exact I.call (g':=g') (t':=t') (d':=d') u hok hg hch
end
abbrev XK:=Value→Option Addr→Hp→Prop
abbrev St:=List (Option V)
abbrev VK:=V→Hp→Prop
abbrev TE:=St→Hp→VK→Prop
abbrev TT:=St→Hp→(Bool→Hp→Prop)→Prop
abbrev TA:=St→Hp→(List V→Hp→Prop)→Prop
structure Ends where
 nx:St→Hp→Prop
 rt:VK
 bk:St→Hp→Prop:=fun _ _=>False
 ct:St→Hp→Prop:=fun _ _=>False
abbrev TS:=Ends→St→Hp→Prop
def EP (X:Cx)(pins:List (Addr×Obj))(σ:St)(Q:VK)(u:Value)(s':Shared):Prop:=∃ v H',Inv X pins σ H' s'∧RelV v u∧Q v H'
def TP (X:Cx)(pins:List (Addr×Obj))(σ:St)(Q:Bool→Hp→Prop)(b:Bool)(s':Shared):Prop:=∃ H',Inv X pins σ H' s'∧Q b H'
def AP (X:Cx)(pins:List (Addr×Obj))(σ:St)(Q:List V→Hp→Prop)(us:List Value)(s':Shared):Prop:=∃ vs H',Inv X pins σ H' s'∧Vals vs us∧Q vs H'
def SP (X:Cx)(pins:List (Addr×Obj))(D:Ends)(f:Flow)(s':Shared):Prop :=
 match f with
 |.next=>∃ σ' H',Inv X pins σ' H' s'∧D.nx σ' H'
 |.brk=>∃ σ' H',Inv X pins σ' H' s'∧D.bk σ' H'
 |.cont=>∃ σ' H',Inv X pins σ' H' s'∧D.ct σ' H'
 |.ret u=>∃ v σ' H',Inv X pins σ' H' s'∧RelV v u∧D.rt v H'
def PE (X:Cx)(e:Expr)(t:TE):Prop :=
 ∀ (pins:List (Addr×Obj)) (s:Shared) (σ:St) (H:Hp) (Q:VK),Inv X pins σ H s→t σ H Q→wpAny (model X.prog X.w) X.A (eval e X.env) (EP X pins σ Q) X.xe s
def PT (X:Cx)(e:Expr)(t:TT):Prop :=
 ∀ (pins:List (Addr×Obj)) (s:Shared) (σ:St) (H:Hp) (Q:Bool→Hp→Prop),Inv X pins σ H s→t σ H Q→wpAny (model X.prog X.w) X.A (isTrue e X.env (eval e X.env)) (TP X pins σ Q) X.xe s
def PW (X:Cx)(e:Expr)(t:TT):Prop :=
 ∀ (whole:Sem Value) (pins:List (Addr×Obj)) (s:Shared) (σ:St) (H:Hp) (Q:Bool→Hp→Prop),Inv X pins σ H s→t σ H Q→wpAny (model X.prog X.w) X.A (isTrue e X.env whole) (TP X pins σ Q) X.xe s
theorem PW.pt {X:Cx}{e:Expr}{t:TT}(h:PW X e t):PT X e t:=h _
def PA (X:Cx)(es:List Expr)(t:TA):Prop :=
 ∀ (pos:Pos) (pins:List (Addr×Obj)) (s:Shared) (σ:St) (H:Hp) (Q:List V→Hp→Prop),Inv X pins σ H s→t σ H Q→wpAny (model X.prog X.w) X.A (spliced (backTo pos (starEach es X.env))) (AP X pins σ Q) X.xe s
def PS (X:Cx)(st:Stmt)(t:TS):Prop :=
 ∀ (pins:List (Addr×Obj)) (s:Shared) (σ:St) (H:Hp) (D:Ends),Inv X pins σ H s→t D σ H→wpAny (model X.prog X.w) X.A (exec st X.env) (SP X pins D) X.xe s
def PSs (X:Cx)(st:List Stmt)(t:TS):Prop :=
 ∀ (pins:List (Addr×Obj)) (s:Shared) (σ:St) (H:Hp) (D:Ends),Inv X pins σ H s→t D σ H→wpAny (model X.prog X.w) X.A (execs st X.env) (SP X pins D) X.xe s
theorem thn {α:Type}{t:Sem α}{Q Q':α→Shared→Prop}{M:Model}{A:Around}{E:Value→Shared→Prop}{s:Shared}(h:wpAny M A t Q E s)(hQ:∀ a s,Q a s→Q' a s):wpAny M A t Q' E s:=wpAny_mono h hQ fun _ _ x=>x
section
variable {X:Cx}
def tVar (i:Nat):TE:=fun σ H Q=>∃ v,σ[i]?=some (some v)∧Q v H
def tC (v:V):TE:=fun _ H Q=>Q v H
theorem pe_var {i:Nat} {x:Str} {pos:Pos} (hN:X.N[i]?=some x) (hv:Vis X.env.scope x) (hd:(x == ("__debug__":Str))=false:=by decide) (hcd:(x == ("__classdict__":Str))=false:=by decide):PE X (.Name x pos) (tVar i):=by
 intro pins s σ H Q I h
 obtain⟨v,e,h⟩:=h
 obtain⟨m,hn,hl⟩:=I.loc
 obtain⟨u,r,l⟩:=hl i x v hN e hv
 have fin:EP X pins σ Q u s:=⟨v,H,I,r,h⟩
 rcases l with ⟨hk,hm⟩ | ⟨hk,c,hc,hcell⟩
 ·exact wpAny_Name (wpAny_loadName_local I.ok.kind hk hn hm fin) hd
 ·rcases hk with hk | hk
  ·exact wpAny_Name (wpAny_loadName_cell I.ok.kind hk hc hcell fin) hd
  ·exact wpAny_Name (wpAny_loadName_free I.ok.kind hk hc hcell fin hcd) hd
theorem pe_int {i j pos}:PE X (.Constant (.int i) j pos) (tC (.int i)):=fun _ _ _ H _ I h=>wpAny_Constant_int ⟨.int i,H,I.tok _,⟨_,rfl⟩,h⟩
theorem pe_bl {b j pos}:PE X (.Constant (.bool b) j pos) (tC (.bl b)):=fun _ _ _ H _ I h=>Constant_bool ⟨.bl b,H,I,rfl,h⟩
theorem pe_non {j pos}:PE X (.Constant .none j pos) (tC .non):=fun _ _ _ H _ I h=>Constant_none ⟨.non,H,I,rfl,h⟩
theorem pe_str {x j pos}:PE X (.Constant (.str x) j pos) (tC (.str x)):=fun _ _ _ H _ I h=>Calls.Constant_str ⟨.str x,H,I.tok _,⟨_,rfl⟩,h⟩
def Gl (X:Cx)(x:Str):Prop:=X.env.kindOf x=some .globalImplicit
theorem ld_glob {E:Value→Shared→Prop}{pins:List (Addr×Obj)}{s:Shared}{σ:St}{H:Hp}{x:Str}{u:Value}{pos:Pos}{Q:Value→Shared→Prop}(I:Inv X pins σ H s)(hg:Gl X x)(hm:X.mg x=some u)(h:Q u s)
  (hd:(x == ("__debug__":Str))=false:=by decide):wpAny (model X.prog X.w) X.A (eval (.Name x pos) X.env) Q E s :=
 Calls.Name_function_global I.ok.kind hg (Calls.loadGlobal_global (by rw[I.ok.glob]; exact I.mod.glob.keeps I.bk) hm h) hd
theorem ld_blt {E:Value→Shared→Prop}{pins:List (Addr×Obj)}{s:Shared}{σ:St}{H:Hp}{x:Str}{u:Value}{pos:Pos}{Q:Value→Shared→Prop}(I:Inv X pins σ H s)(hg:Gl X x)(hm:X.mg x=none)(hv:bootBuiltins x=some u)(h:Q u s)
  (hn:x≠"__name__":=by decide) (hd:(x == ("__debug__":Str))=false:=by decide):wpAny (model X.prog X.w) X.A (eval (.Name x pos) X.env) Q E s:=by
 obtain⟨mb,h1,h2⟩:=I.mod.blt
 exact Calls.Name_function_global I.ok.kind hg (Calls.loadGlobal_builtin (by rw[I.ok.glob]; exact I.mod.glob.keeps I.bk) hm (by rw[I.ok.blt]; exact h1.keeps I.bk) ((h2 x hn).trans hv) h) hd
variable {a b:Expr}{ta tb:TE}{pos:Pos}
def tB (t:TE):TT:=fun σ H Q=>t σ H fun x H1=>∃ c,x=.bl c∧Q c H1
theorem pt_val {e:Expr}{t:TE}(h:PE X e t)(he:∀ whole,isTrue e X.env whole=(do let v ← whole; standAt e.pos; holding [v] (truthy v)):=by intro _; rfl):PT X e (tB t):=by
 intro pins s σ H Q I hw
 refine isTrue_plain (thn (h pins s σ H _ I hw) fun v s1 ⟨x,H1,I1,r1,q1⟩=>?_) (he _)
 obtain⟨d,rfl,q⟩:=q1
 cases r1
 exact wpAny_truthy_bool ⟨H1,I1,q⟩
variable {tA tB':TT}{rest:List Expr}
def tAnd (t u:TT):TT:=fun σ H Q=>t σ H fun c H1=>if c=true then u σ H1 Q else Q false H1
def tOr (t u:TT):TT:=fun σ H Q=>t σ H fun c H1=>if c=true then Q true H1 else u σ H1 Q
def tNot (t:TT):TT:=fun σ H Q=>t σ H fun c H1=>Q (!c) H1
theorem pw_and1 (ha:PT X a tA):PW X (.BoolOp .And [a] pos) tA:=by
 intro wh pins s σ H Q I h
 refine isTrue_and (thn (ha pins s σ H Q I h) fun c s1 e=>?_)
 cases c with
 |true=>exact isTrue_and_nil e
 |false=>exact e
theorem pw_or1 (ha:PT X a tA):PW X (.BoolOp .Or [a] pos) tA:=by
 intro wh pins s σ H Q I h
 refine isTrue_or (thn (ha pins s σ H Q I h) fun c s1 e=>?_)
 cases c with
 |false=>exact isTrue_or_nil e
 |true=>exact e
theorem pw_and (ha:PT X a tA)(hb:PW X (.BoolOp .And (b::rest) pos) tB'):PW X (.BoolOp .And (a::b::rest) pos) (tAnd tA tB'):=by
 intro wh pins s σ H Q I h
 refine isTrue_and (thn (ha pins s σ H _ I h) fun c s1 ⟨H1,I1,q1⟩=>?_)
 cases c with
 |true=>exact hb wh pins s1 σ H1 Q I1 q1
 |false=>exact⟨H1,I1,q1⟩
theorem pw_or (ha:PT X a tA)(hb:PW X (.BoolOp .Or (b::rest) pos) tB'):PW X (.BoolOp .Or (a::b::rest) pos) (tOr tA tB'):=by
 intro wh pins s σ H Q I h
 refine isTrue_or (thn (ha pins s σ H _ I h) fun c s1 ⟨H1,I1,q1⟩=>?_)
 cases c with
 |true=>exact⟨H1,I1,q1⟩
 |false=>exact hb wh pins s1 σ H1 Q I1 q1
theorem pt_not (ha:PT X a tA):PT X (.UnaryOp .Not a pos) (tNot tA):=by
 intro pins s σ H Q I h
 exact isTrue_not (ha pins s σ H (fun c H1=>Q (!c) H1) I h)
def tIf (t:TT)(ta tb:TE):TE:=fun σ H Q=>t σ H fun c H1=>if c=true then ta σ H1 Q else tb σ H1 Q
theorem pe_ifExp {c:Expr}(hc:PT X c tA)(ha:PE X a ta)(hb:PE X b tb):PE X (.IfExp c a b pos) (tIf tA ta tb):=by
 intro pins s σ H Q I h
 refine wpAny_IfExp (thn (hc pins s σ H _ I h) fun d s1 ⟨H1,I1,q1⟩=>?_)
 cases d with
 |true=>exact ha pins s1 σ H1 Q I1 q1
 |false=>exact hb pins s1 σ H1 Q I1 q1
end
def SqL (K:PySem.W.Frag)(H:Hp)(a:Addr)(xs:List V):Prop :=
 Rd H a (.lst xs) ∨
  ∃ (o:Obj) (its:Array Value) (n:Nat),K.lookup a=some o∧o.cls=.type "list"∧o.dict=none∧o.data=.seq its n∧its.size≤sizeLine∧Vals xs its.toList
def SqT (K:PySem.W.Frag)(H:Hp)(a:Addr)(xs:List V):Prop :=
 Rd H a (.tup xs) ∨
  ∃ (o:Obj) (its:Array Value) (n:Nat),K.lookup a=some o∧o.cls=.type "tuple"∧o.data=.seq its n∧its.size≤sizeLine∧Vals xs its.toList
def absV:Value→Option V
 |.none=>some .non
 |.bool b=>some (.bl b)
 |.int i _=>some (.int i)
 |.str x _=>some (.str x)
 |.bytes b _=>some (.byt b)
 |.float b _=>some (.flt b)
 |.ref a=>some (.ref a)
 |.type n=>some (.ty n)
 |_=>none
theorem RelV.abs {x:V}{u:Value}(r:RelV x u):absV u=some x:=by
 cases x with
 |non=>cases r; rfl
 |bl _=>cases r; rfl
 |int _=>obtain⟨t,rfl⟩:=r; rfl
 |str _=>obtain⟨t,rfl⟩:=r; rfl
 |byt _=>obtain⟨t,rfl⟩:=r; rfl
 |flt _=>obtain⟨t,rfl⟩:=r; rfl
 |ref _=>cases r; rfl
 |ty _=>cases r; rfl
theorem RelV.inj {x y:V}{u:Value}(r:RelV x u)(q:RelV y u):x=y:=Option.some.inj (r.abs.symm.trans q.abs)
theorem Vals.inj:∀ {xs ys:List V} {us:List Value},Vals xs us→Vals ys us→xs=ys
 |_,_,_,.nil,.nil=>rfl
 |_,_,_,.cons r t,.cons r' t'=>by rw[r.inj r',Vals.inj t t']
section
variable {X:Cx}{pins:List (Addr×Obj)}{σ:St}{H:Hp}{s:Shared}{a:Addr}{xs ys:List V}
theorem SqL.of {K:PySem.W.Frag}(h:H a=some (.lst xs)):SqL K H a xs:=.inl (.inl h)
theorem SqT.of {K:PySem.W.Frag}(h:H a=some (.tup xs)):SqT K H a xs:=.inl (.inl h)
theorem Inv.list (I:Inv X pins σ H s)(h:SqL X.K H a xs):∃ its:List Value,Vals xs its∧PlainL s.heap a its.toArray∧xs.length≤sizeLine:=by
 rcases h with h | ⟨o,its,n,hk,hc,hd,hs,hz,r⟩
 ·obtain⟨z,its,n,r,e⟩:=h.ok I.hok
  exact⟨its,r,⟨_,n,e,rfl,rfl,rfl⟩,z⟩
 ·refine⟨its.toList,r,⟨o,n,I.kIn a o hk,hc,hd,by simpa using hs⟩,?_⟩
  have e:=r.length
  simp only[Array.length_toList] at e
  lia
theorem Inv.tuple (I:Inv X pins σ H s)(h:SqT X.K H a xs):∃ its:List Value,Vals xs its∧IsTup s.heap a its.toArray∧xs.length≤sizeLine:=by
 rcases h with h | ⟨o,its,n,hk,hc,hs,hz,r⟩
 ·obtain⟨z,its,r,p⟩:=h.ok I.hok
  exact⟨its,r,p,z⟩
 ·refine⟨its.toList,r,⟨o,I.kIn a o hk,hc,n,by simpa using hs⟩,?_⟩
  have e:=r.length
  simp only[Array.length_toList] at e
  lia
theorem Inv.list_inj (I:Inv X pins σ H s)(h:SqL X.K H a xs)(h':SqL X.K H a ys):xs=ys:=by
 obtain⟨its,r,⟨o,n,e,_,_,d⟩,_⟩:=I.list h
 obtain⟨its',r',⟨o',n',e',_,_,d'⟩,_⟩:=I.list h'
 rw[e] at e'; cases e'
 rw[d] at d'
 injection d' with d1 _
 have:its=its':=by simpa using congrArg Array.toList d1
 subst this
 exact r.inj r'
theorem Inv.tuple_inj (I:Inv X pins σ H s)(h:SqT X.K H a xs)(h':SqT X.K H a ys):xs=ys:=by
 obtain⟨its,r,⟨o,e,_,n,d⟩,_⟩:=I.tuple h
 obtain⟨its',r',⟨o',e',_,n',d'⟩,_⟩:=I.tuple h'
 rw[e] at e'; cases e'
 rw[d] at d'
 injection d' with d1 _
 have:its=its':=by simpa using congrArg Array.toList d1
 subst this
 exact r.inj r'
end
abbrev Cx.wish (X:Cx)(E:Value→Shared→Prop):Cx:={ X with xe:=E }
abbrev Cx.nox (X:Cx):Cx:=X.wish fun _ _=>False
theorem Cx.Ok.wish {X:Cx}(ok:X.Ok)(E:Value→Shared→Prop):(X.wish E).Ok :=
 ⟨ok.mod,ok.kind,ok.glob,ok.blt,ok.above,ok.inj,ok.has,ok.cab,ok.hd,ok.frames,ok.stk,ok.exf,ok.bs,ok.bsz,ok.noex,ok.exfs,ok.funs,ok.frf⟩
theorem Cx.Ok.unwish {X:Cx}{E:Value→Shared→Prop}(ok:(X.wish E).Ok):X.Ok :=
 ⟨ok.mod,ok.kind,ok.glob,ok.blt,ok.above,ok.inj,ok.has,ok.cab,ok.hd,ok.frames,ok.stk,ok.exf,ok.bs,ok.bsz,ok.noex,ok.exfs,ok.funs,ok.frf⟩
section
variable {X:Cx}{pins:List (Addr×Obj)}{σ:St}{H:Hp}{s:Shared}{E:Value→Shared→Prop}
theorem Inv.wish (I:Inv X pins σ H s)(E:Value→Shared→Prop):Inv (X.wish E) pins σ H s:=⟨I.ok.wish E,I.os,I.bare,I.base,I.loc,I.cell,I.free,I.freeC,I.pin,I.hok,I.len⟩
theorem Inv.unwish (I:Inv (X.wish E) pins σ H s):Inv X pins σ H s:=⟨I.ok.unwish,I.os,I.bare,I.base,I.loc,I.cell,I.free,I.freeC,I.pin,I.hok,I.len⟩
theorem SP.unwish {D:Ends}{f:Flow}{s':Shared}(h:SP (X.wish E) pins D f s'):SP X pins D f s':=by
 cases f with
 |next=>obtain⟨σ',H',I,q⟩:=h; exact⟨σ',H',I.unwish,q⟩
 |brk=>obtain⟨σ',H',I,q⟩:=h; exact⟨σ',H',I.unwish,q⟩
 |cont=>obtain⟨σ',H',I,q⟩:=h; exact⟨σ',H',I.unwish,q⟩
 |ret u=>obtain⟨v,σ',H',I,r,q⟩:=h; exact⟨v,σ',H',I.unwish,r,q⟩
theorem PSs.nox {st:List Stmt}{t:TS}(h:PSs X.nox st t):PSs X st t:=fun pins s σ H D I hw =>
 wpAny_mono (h pins s σ H D (I.wish _) hw) (fun _ _ q=>q.unwish) fun _ _ z=>False.elim z
end
section
variable {X:Cx}{st:Stmt}{rest:List Stmt}{t u:TS}{e:Expr}{te:TE}{pos:Pos}
def tNext:TS:=fun D σ H=>D.nx σ H
def tSeq (t u:TS):TS:=fun D σ H=>t { D with nx:=u D } σ H
theorem pss_nil:PSs X [] tNext:=fun _ _ σ H _ I h=>wpAny_execs_nil ⟨σ,H,I,h⟩
theorem pss_cons (h1:PS X st t)(h2:PSs X rest u):PSs X (st::rest) (tSeq t u):=by
 intro pins s σ H D I h
 refine wpAny_execs_cons (thn (h1 pins s σ H { D with nx:=u D } I h) fun f s1 q=>?_)
 cases f with
 |next =>
  obtain⟨σ',H',I',q⟩:=q
  exact h2 pins s1 σ' H' D I' q
 |ret v=>exact q
 |brk=>exact q
 |cont=>exact q
theorem pss_one (h1:PS X st t):PSs X [st] t:=by
 intro pins s σ H D I h
 refine wpAny_execs_cons (thn (h1 pins s σ H D I h) fun f s1 q=>?_)
 cases f with
 |next=>exact wpAny_execs_nil q
 |ret v=>exact q
 |brk=>exact q
 |cont=>exact q
theorem Inv.quiet {pins:List (Addr×Obj)}{σ:St}{H:Hp}{s:Shared}(I:Inv X pins σ H s):interactive X.env=false:=by simp[interactive,I.ok.kind]
def tDrop (te:TE):TS:=fun D σ H=>te σ H fun _ H1=>D.nx σ H1
theorem ps_expr (he:PE X e te)(hs:swapsWith e none pos.line X.env=pure false:=by rfl):PS X (.Expr e pos) (tDrop te):=by
 intro pins s σ H D I h
 exact wpAny_Expr_any (thn (he pins s σ H _ I h) fun v s1 ⟨x,H1,I1,r1,q1⟩=>⟨σ,H1,I1,q1⟩) I.quiet hs
def tRet (te:TE):TS:=fun D σ H=>te σ H D.rt
theorem ps_ret (he:PE X e te):PS X (.Return (some e) pos) (tRet te):=by
 intro pins s σ H D I h
 exact wpAny_Return_some (thn (he pins s σ H _ I h) fun v s1 ⟨x,H1,I1,r1,q1⟩=>⟨x,σ,H1,I1,r1,q1⟩)
def tIfS (c:TT)(t u:TS):TS:=fun D σ H=>c σ H fun b H1=>if b=true then t D σ H1 else u D σ H1
theorem ps_if {c:Expr}{a b:List Stmt}{tc:TT}(hc:PT X c tc)(ha:PSs X a t)(hb:PSs X b u):PS X (.If c a b pos) (tIfS tc t u):=by
 intro pins s σ H D I h
 refine wpAny_If (thn (hc pins s σ H _ I h) fun d s1 ⟨H1,I1,q1⟩=>?_)
 cases d with
 |true=>exact ha pins s1 σ H1 D I1 q1
 |false=>exact hb pins s1 σ H1 D I1 q1
end
abbrev TG:=V→St→Hp→(St→Hp→Prop)→Prop
abbrev TGs:=List V→St→Hp→(St→Hp→Prop)→Prop
def PG (X:Cx)(target:Expr)(t:TG):Prop :=
 ∀ (pins:List (Addr×Obj)) (s:Shared) (σ:St) (H:Hp) (v:V) (u:Value) (Q:St→Hp→Prop),Inv X pins σ H s→RelV v u→t v σ H Q →
  wpAny (model X.prog X.w) X.A (assign target X.env u) (fun _ s'=>∃ σ' H',Inv X pins σ' H' s'∧Q σ' H') X.xe s
def PGs (X:Cx)(ts:List Expr)(t:TGs):Prop :=
 ∀ (pins:List (Addr×Obj)) (s:Shared) (σ:St) (H:Hp) (vs:List V) (us:List Value) (Q:St→Hp→Prop),Inv X pins σ H s→Vals vs us→t vs σ H Q →
  wpAny (model X.prog X.w) X.A (assignInOrder ((assignEach ts X.env).map (·.2)) us) (fun _ s'=>∃ σ' H',Inv X pins σ' H' s'∧Q σ' H') X.xe s
section
variable {X:Cx}{pos:Pos}
def gName (i:Nat):TG:=fun v σ H Q=>Q (σ.set i (some v)) H
theorem pg_name {i:Nat}{x:Str}(hN:X.N.Nodup)(hi:X.N[i]?=some x)(hx:Loc X.env.scope x)(hf:X.fn x=true∨X.env.scope.names.lookup x=some .local:=by first | exact .inl rfl | exact .inr rfl | assumption):PG X (.Name x pos) (gName i):=by
 intro pins s σ H v u Q I r h
 exact wpAny_assign_Name (store_ok I hN hi hx r (fun s' I'=>⟨_,H,I',h⟩) hf)
def gNil:TGs:=fun vs σ H Q=>vs=[]∧Q σ H
def gCons (t:TG)(u:TGs):TGs:=fun vs σ H Q=>∃ v r,vs=v::r∧t v σ H fun σ' H'=>u r σ' H' Q
theorem pgs_nil:PGs X [] gNil:=by
 intro pins s σ H vs us Q I r h
 obtain⟨e,h⟩:=h
 subst e
 cases r
 exact assignInOrder_nil ⟨σ,H,I,h⟩
theorem pgs_cons {e:Expr}{es:List Expr}{t:TG}{u:TGs}(h1:PG X e t)(h2:PGs X es u)
  (hs:(assignEach (e::es) X.env).map (·.2)=assign e X.env::(assignEach es X.env).map (·.2):=by rfl):PGs X (e::es) (gCons t u):=by
 intro pins s σ H vs us Q I r h
 obtain⟨v,vr,e1,h⟩:=h
 subst e1
 cases r with
 |cons r rr =>
  rw[hs]
  refine assignInOrder_cons (thn (h1 pins s σ H _ _ _ I r h) fun _ s1 ⟨σ1,H1,I1,q1⟩=>?_)
  exact h2 pins s1 σ1 H1 _ _ Q I1 rr q1
def gTup (K:PySem.W.Frag)(n:Nat)(t:TGs):TG:=fun v σ H Q=>∃ a xs,v=.ref a∧SqT K H a xs∧xs.length=n∧t xs σ H Q
theorem pg_tup {es:List Expr}{k:Nat}{t:TGs}{n:Nat}(hc:X.calm=true)(h:PGs X es t)
  (hn:(assignEach es X.env).length=n:=by rfl) (hst:(assignEach es X.env).findIdx? (·.1)=none:=by rfl):PG X (.Tuple es k pos) (gTup X.K n t):=by
 intro pins s σ H v u Q I r hw
 obtain⟨a,xs,e1,hq,hl,hw⟩:=hw
 subst e1
 cases r
 obtain⟨its,rv,ht,hz⟩:=I.tuple hq
 refine assign_Tuple_tuple (I.ok.hd hc) ht (by simp[hn,← hl,rv.length]) hst fun h' hx=>?_
 have I1:Inv X pins σ H { s with heap:=h' }:=I.kept (t':=s.toks) fun b o e=>hx b o (Nat.ne_of_lt (Heap.lt_size e)) e
 exact h pins _ σ H xs _ Q I1 (by simpa using rv) hw
def tAsg (te:TE)(g:TG):TS:=fun D σ H=>te σ H fun x H1=>g x σ H1 D.nx
theorem ps_asg {tg e:Expr}{te:TE}{g:TG}(he:PE X e te)(hg:PG X tg g)(hs:swapsWithSole [tg] e pos.line X.env=pure false:=by rfl)(hw:swappedStores [tg] e X.env=pure none:=by rfl)
  (h1:(assignEach [tg] X.env).map (·.2)=[assign tg X.env]:=by rfl):PS X (.Assign [tg] e pos) (tAsg te g):=by
 intro pins s σ H D I h
 refine wpAny_Assign_stores (thn (he pins s σ H _ I h) fun v s1 ⟨x,H1,I1,r1,q1⟩=>?_) hs hw
 rw[h1]
 exact thn (hg pins s1 σ H1 x v _ I1 r1 q1) fun _ s2 q=>q
theorem ps_set {i:Nat}{x:Str}{e:Expr}{te:TE}{pos':Pos}(hN:X.N.Nodup)(hi:X.N[i]?=some x)(hx:Loc X.env.scope x)(he:PE X e te)(hs:swapsWith e (some (.Name x pos')) pos.line X.env=pure false:=by rfl)(hf:X.fn x=true∨X.env.scope.names.lookup x=some .local:=by first | exact .inl rfl | exact .inr rfl | assumption) :
  PS X (.Assign [.Name x pos'] e pos) (tAsg te (gName i)):=by
 intro pins s σ H D I h
 refine wpAny_Assign_Name (thn (he pins s σ H _ I h) fun v s1 ⟨y,H1,I1,r1,q1⟩=>?_) hs
 exact store_ok I1 hN hi hx r1 (fun s2 I2=>⟨_,H1,I2,q1⟩) hf
def tWhile (c:TT)(tb:TS):TS:=fun D σ H=>∃ W:Nat→St→Hp→Prop,(∃ m,W m σ H)∧∀ m σ H,W m σ H →
 c σ H fun b H1=>if b=true then ∃ N:St→Hp→Prop,(∀ σ' H',N σ' H'→∃ m',m'<m∧W m' σ' H')∧tb { D with nx:=N,ct:=N,bk:=D.nx } σ H1 else D.nx σ H1
theorem ps_while {c:Expr}{body:List Stmt}{tc:TT}{tb:TS}(hp:PassesOwn (model X.prog X.w) X.A X.env X.xe)(hc:PT X c tc)(hb:PSs X body tb):PS X (.While c body [] pos) (tWhile tc tb):=by
 intro pins s σ H D I h
 obtain⟨W,⟨m0,w0⟩,turn⟩:=h
 refine wpAny_While (codeAny_whileLoop (fun n s'=>∃ σ' H',Inv X pins σ' H' s'∧W n σ' H') ?_ m0 ⟨σ,H,I,w0⟩)
 rintro n s1 ⟨σ1,H1,I1,w1⟩
 refine wpAny_passesOwn hp (thn (hc pins s1 σ1 H1 _ I1 (turn n σ1 H1 w1)) fun b s2 ⟨H2,I2,q2⟩=>?_)
 cases b with
 |true =>
  obtain⟨N,hN,q2⟩:=q2
  rw[if_pos rfl]
  refine wpAny_passesOwn hp (thn (hb pins s2 σ1 H2 _ I2 q2) fun f s3 q3=>?_)
  cases f with
  |next =>
   obtain⟨σ3,H3,I3,n3⟩:=q3
   obtain⟨m',hm,w3⟩:=hN σ3 H3 n3
   exact⟨m',hm,σ3,H3,I3,w3⟩
  |cont =>
   obtain⟨σ3,H3,I3,n3⟩:=q3
   obtain⟨m',hm,w3⟩:=hN σ3 H3 n3
   exact⟨m',hm,σ3,H3,I3,w3⟩
  |brk=>exact q3
  |ret v=>exact q3
 |false =>
  rw[if_neg Bool.false_ne_true]
  exact wpAny_execs_nil ⟨σ1,H2,I2,q2⟩
end
structure It where
 go:Nat→Hp→Prop
 yld:Nat→Hp→V→Hp→Prop
 stop:Nat→Hp→Prop
def FpOk (X:Cx)(pins:List (Addr×Obj))(H:Hp)(b:Addr):Prop :=
 H b=none∧b≠X.env.locals∧b∉X.fs∧(b∈X.ex∨X.s₀.heap.objs.size≤b)∧(∀ x c,X.env.cells.lookup x=some c→c≠b)∧∀ p∈X.pn++pins,p.1≠b
theorem Inv.fpOk {X:Cx}{pins:List (Addr×Obj)}{σ:St}{H H':Hp}{s:Shared}{b:Addr}(I:Inv X pins σ H s)(hb:s.heap.objs.size≤b)(hn:H' b=none):FpOk X pins H' b:=by
 refine⟨hn,Nat.ne_of_gt (Nat.lt_of_lt_of_le I.lt hb),I.nofs hb,.inr (Nat.le_trans I.sz hb),fun x c e z=>?_,fun p hp z=>?_⟩
 ·obtain⟨v,q⟩:=I.cell x c e
  exact absurd (Nat.lt_of_lt_of_le q.lt (by rw[z]; exact hb)) (Nat.lt_irrefl _)
 ·exact absurd (Nat.lt_of_lt_of_le (Heap.lt_size (I.pin p hp).1) (by rw[z]; exact hb)) (Nat.lt_irrefl _)
structure Turn (P:Program)(w:World)(K:PySem.W.Frag)(tg:Expr)(J:It)(fp:List Addr)(it:Addr)(tn:Nat→Heap→Prop):Prop where
 mem:it∈fp
 obj:∀ i h,tn i h→∀ b∈fp,∃ o,h.get? b=some o∧∀ v,o.data≠.cell v
 keep:∀ i h h',tn i h→(∀ b∈fp,∀ o,h.get? b=some o→h'.get? b=some o)→tn i h'
 item:∀ (X:Cx),X.prog=P→X.w=w→X.K=K→X.calm=true→∀ (i:Nat) (pins:List (Addr×Obj)) (s:Shared) (σ:St) (H:Hp) (E:Value→Shared→Prop),Inv X pins σ H s→(∀ b∈fp,FpOk X pins H b)→tn i s.heap→J.go i H →
  wpAny (model P w) X.A (pyNext (.ref it)) (fun r s1=>∃ u,r=some u ∧
   wpAny (model P w) X.A (letOwnedTupleGo tg (.ref it) u) (fun _ s2=>∃ x H',Inv X pins σ H' s2∧RelV x u∧J.yld i H x H'∧tn (i+1) s2.heap∧∀ b∈fp,H' b=none) E s1) E s
 done:∀ (X:Cx),X.prog=P→X.w=w→X.K=K→X.calm=true→∀ (i:Nat) (pins:List (Addr×Obj)) (s:Shared) (σ:St) (H:Hp) (E:Value→Shared→Prop),Inv X pins σ H s→(∀ b∈fp,FpOk X pins H b)→tn i s.heap→J.stop i H →
  wpAny (model P w) X.A (pyNext (.ref it)) (fun r s1=>r=none∧Inv X pins σ H s1) E s
 self:∀ (A:Around) (i:Nat) (s:Shared) (Q:Value→Shared→Prop) (E:Value→Shared→Prop),tn i s.heap→Q (.ref it) s→wpAny (model P w) A (pyIter (.ref it)) Q E s
abbrev TI:=St→Hp→(It→Hp→Prop)→Prop
def PIE (X:Cx)(pins:List (Addr×Obj))(σ:St)(tg:Expr)(R:It→Hp→Prop)(itv:Value)(s2:Shared):Prop :=
 ∃ (it:Addr) (fp:List Addr) (tn:Nat→Heap→Prop) (J:It) (H':Hp),itv=.ref it∧Inv X pins σ H' s2∧Turn X.prog X.w X.K tg J fp it tn∧tn 0 s2.heap∧(∀ b∈fp,FpOk X pins H' b)∧R J H'
def PI (X:Cx)(tg iter:Expr)(wi:TI):Prop :=
 ∀ (pins:List (Addr×Obj)) (s:Shared) (σ:St) (H:Hp) (R:It→Hp→Prop),Inv X pins σ H s→wi σ H R →
  wpAny (model X.prog X.w) X.A (eval iter X.env) (fun v s1=>wpAny (model X.prog X.w) X.A (pyIter v) (PIE X pins σ tg R) X.xe s1) X.xe s
theorem go_of {M:Model}{A:Around}{E:Value→Shared→Prop}{s:Shared}{tg:Expr}{it:Addr}{u:Value}{o:Obj}{n:String}{vs:Array Value}{Q:Unit→Shared→Prop}(ho:s.heap.get? it=some o)(hc:o.cls=.type n)(hd:o.data=.fields vs)
  (hn:["enumerate","zip","dict_itemiterator","dict_reverseitemiterator","odict_iterator","itertools.zip_longest","itertools.pairwise"].contains n=false) (hQ:Q () s):wpAny M A (letOwnedTupleGo tg (.ref it) u) Q E s:=by
 unfold letOwnedTupleGo
 cases tg <;> first
  |exact wpAny_pure hQ
  |(cases u <;> first
    |exact wpAny_pure hQ
    |(refine wpAny_bind (wpAny_load ho ?_); rw[hc,hd]; show wpAny M A (if (["enumerate","zip","dict_itemiterator","dict_reverseitemiterator","odict_iterator","itertools.zip_longest","itertools.pairwise"].contains n&&vs[0]? == some (rawInt _))=true then _ else _) Q E s; rw[if_neg (by intro h; rw[hn,Bool.false_and] at h; cases h)]; exact wpAny_pure hQ))
def Itl (K:PySem.W.Frag)(a:Addr):It :=
 ⟨fun i H=>∃ xs x,SqL K H a xs∧xs[i]?=some x,fun i H x H'=>H'=H∧∀ xs,SqL K H a xs→xs[i]?=some x,fun i H=>∃ xs,SqL K H a xs∧xs.length≤i⟩
def Itt (K:PySem.W.Frag)(a:Addr):It :=
 ⟨fun i H=>∃ xs x,SqT K H a xs∧xs[i]?=some x,fun i H x H'=>H'=H∧∀ xs,SqT K H a xs→xs[i]?=some x,fun i H=>∃ xs,SqT K H a xs∧xs.length≤i⟩
def Itr (lo:Int)(n:Nat):It:=⟨fun i _=>i<n,fun i H x H'=>H'=H∧x=.int (lo+i),fun i _=>n≤i⟩
theorem turn_list {P:Program}{w:World}{K:PySem.W.Frag}{tg:Expr}(a it:Addr):Turn P w K tg (Itl K a) [it] it (fun i h=>h.IsListIter it a i) where
 mem:=by simp
 obj:=fun i h st b hb=>by
  have e:b=it:=by simpa using hb
  subst e
  obtain⟨o,e,c,d⟩:=st
  exact⟨o,e,fun v z=>by rw[d] at z; cases z⟩
 keep:=fun i h h' st k=>st.at fun o e=>k it (by simp) o e
 item:=by
  intro X hP hw hK hc i pins s σ H E I hf st hg
  subst hP hw hK
  obtain⟨xs,x,hq,hx⟩:=hg
  obtain⟨its,rv,p,hz⟩:=I.list hq
  obtain⟨u,hu,ru⟩:=rv.get hx
  obtain⟨f0,f1,f2,f3,f4,f5⟩:=hf it (by simp)
  refine wpAny_pyNext_list_item st p.isList (x:=u) (by simpa using hu) fun h' st' sb=>?_
  have I1:Inv X pins σ H { s with heap:=h' }:=I.turned (t':=s.toks) (fun b o hb e=>(sb.2 b hb).trans e) f0 f1 f3 f4 f5
  obtain⟨o,e,c,d⟩:=id st'
  exact⟨u,rfl,go_of (s:={ s with heap:=h' }) e c d (by decide) ⟨x,H,I1,ru,⟨rfl,fun ys hy=>by rw[I.list_inj hy hq]; exact hx⟩,st',fun b hb=>(hf b hb).1⟩⟩
 done:=by
  intro X hP hw hK hc i pins s σ H E I hf st hg
  subst hP hw hK
  obtain⟨xs,hq,hx⟩:=hg
  obtain⟨its,rv,p,hz⟩:=I.list hq
  obtain⟨f0,f1,f2,f3,f4,f5⟩:=hf it (by simp)
  have hl:=rv.length
  exact wpAny_pyNext_list_end (I.ok.hd hc) st p.isList (by simp; lia) fun h' eb=>⟨rfl,I.turned (t':=s.toks) (fun b o hb e=>eb b o hb e) f0 f1 f3 f4 f5⟩
 self:=fun _ _ _ _ _ st h=>wpAny_pyIter_listiter st h
theorem turn_tuple {P:Program}{w:World}{K:PySem.W.Frag}{tg:Expr}(a it:Addr):Turn P w K tg (Itt K a) [it] it (fun i h=>h.IsTupleIter it a i) where
 mem:=by simp
 obj:=fun i h st b hb=>by
  have e:b=it:=by simpa using hb
  subst e
  obtain⟨o,e,c,d⟩:=st
  exact⟨o,e,fun v z=>by rw[d] at z; cases z⟩
 keep:=fun i h h' st k=>st.at fun o e=>k it (by simp) o e
 item:=by
  intro X hP hw hK hc i pins s σ H E I hf st hg
  subst hP hw hK
  obtain⟨xs,x,hq,hx⟩:=hg
  obtain⟨its,rv,p,hz⟩:=I.tuple hq
  obtain⟨u,hu,ru⟩:=rv.get hx
  obtain⟨f0,f1,f2,f3,f4,f5⟩:=hf it (by simp)
  refine wpAny_pyNext_tuple_item st (show s.heap.IsTuple a its.toArray from p) (x:=u) (by simpa using hu) fun h' st' sb=>?_
  have I1:Inv X pins σ H { s with heap:=h' }:=I.turned (t':=s.toks) (fun b o hb e=>(sb.2 b hb).trans e) f0 f1 f3 f4 f5
  obtain⟨o,e,c,d⟩:=id st'
  exact⟨u,rfl,go_of (s:={ s with heap:=h' }) e c d (by decide) ⟨x,H,I1,ru,⟨rfl,fun ys hy=>by rw[I.tuple_inj hy hq]; exact hx⟩,st',fun b hb=>(hf b hb).1⟩⟩
 done:=by
  intro X hP hw hK hc i pins s σ H E I hf st hg
  subst hP hw hK
  obtain⟨xs,hq,hx⟩:=hg
  obtain⟨its,rv,p,hz⟩:=I.tuple hq
  obtain⟨f0,f1,f2,f3,f4,f5⟩:=hf it (by simp)
  have hl:=rv.length
  exact wpAny_pyNext_tuple_end (I.ok.hd hc) st (show s.heap.IsTuple a its.toArray from p) (by simp; lia) fun h' eb=>⟨rfl,I.turned (t':=s.toks) (fun b o hb e=>eb b o hb e) f0 f1 f3 f4 f5⟩
 self:=fun _ _ _ _ _ st h=>wpAny_pyIter_tupleiter st h
theorem turn_range {P:Program}{w:World}{K:PySem.W.Frag}{tg:Expr}(it:Addr)(lo:Int)(n:Nat):Turn P w K tg (Itr lo n) [it] it (fun i h=>IsRangeIter h it (lo+(i:Nat)*1) ((n:Int)-(i:Nat)) 1) where
 mem:=by simp
 obj:=fun i h st b hb=>by
  have e:b=it:=by simpa using hb
  subst e
  exact⟨_,st,fun v z=>by
   have z':Data.fields _=Data.cell v:=z
   cases z'⟩
 keep:=fun i h h' st k=>k it (by simp) _ st
 item:=by
  intro X hP hw hK hc i pins s σ H E I hf st hg
  subst hP hw hK
  obtain⟨f0,f1,f2,f3,f4,f5⟩:=hf it (by simp)
  have W:=Walks.range (prog:=X.prog) (w:=X.w) (I.ok.hd hc) it lo 1 n
  refine W.item i s _ _ hg st fun v h' tk hv st' kk=>?_
  obtain⟨t,rfl⟩:=hv
  have I1:Inv X pins σ H { s with heap:=h',toks:=tk }:=I.turned (fun b o hb e=>kk b o (by simpa using hb) e) f0 f1 f3 f4 f5
  refine⟨_,rfl,go_of (s:={ s with heap:=h',toks:=tk }) (n:="range_iterator") st' rfl rfl (by decide) ⟨.int (lo+i),H,I1,⟨t,?_⟩,⟨rfl,rfl⟩,st',fun b hb=>(hf b hb).1⟩⟩
  rw[Int.mul_one]
 done:=by
  intro X hP hw hK hc i pins s σ H E I hf st hg
  subst hP hw hK
  obtain⟨f0,f1,f2,f3,f4,f5⟩:=hf it (by simp)
  exact wpAny_pyNext_range_end (I.ok.hd hc) st (by have:n≤i:=hg; lia) fun h' eb=>⟨rfl,I.turned (t':=s.toks) (fun b o hb e=>eb b o hb e) f0 f1 f3 f4 f5⟩
 self:=fun _ _ _ _ _ st h=>wpAny_pyIter_rangeiter st h
section
variable {X:Cx}{tg:Expr}
def iList (K:PySem.W.Frag)(tl:TE):TI:=fun σ H R=>tl σ H fun x H1=>∃ a,x=.ref a∧(∃ xs,SqL K H1 a xs)∧R (Itl K a) H1
def iTup (K:PySem.W.Frag)(tl:TE):TI:=fun σ H R=>tl σ H fun x H1=>∃ a,x=.ref a∧(∃ xs,SqT K H1 a xs)∧R (Itt K a) H1
theorem pi_list {l:Expr}{tl:TE}(hl:PE X l tl):PI X tg l (iList X.K tl):=by
 intro pins s σ H R I h
 refine thn (hl pins s σ H _ I h) fun v s1 ⟨x,H1,I1,r1,q1⟩=>?_
 obtain⟨a,e,⟨xs,hq⟩,q⟩:=q1
 subst e
 cases r1
 obtain⟨its,rv,p,hz⟩:=I1.list hq
 refine wpAny_pyIter_list p.isList ?_
 refine⟨s1.heap.objs.size,[s1.heap.objs.size],_,_,H1,rfl,I1.kept (t':=s1.toks) fun b o e=>Heap.get?_push_of_some _ e,turn_list a _,⟨_,Heap.get?_push_size _ rfl,rfl,rfl⟩,fun b hb=>?_,q⟩
 have e:b=s1.heap.objs.size:=by simpa using hb
 subst e
 exact I1.fpOk (Nat.le_refl _) (I1.hok.fresh (Nat.le_refl _))
theorem pi_tup {l:Expr}{tl:TE}(hl:PE X l tl):PI X tg l (iTup X.K tl):=by
 intro pins s σ H R I h
 refine thn (hl pins s σ H _ I h) fun v s1 ⟨x,H1,I1,r1,q1⟩=>?_
 obtain⟨a,e,⟨xs,hq⟩,q⟩:=q1
 subst e
 cases r1
 obtain⟨its,rv,p,hz⟩:=I1.tuple hq
 refine wpAny_pyIter_tuple (show s1.heap.IsTuple a its.toArray from p) ?_
 refine⟨s1.heap.objs.size,[s1.heap.objs.size],_,_,H1,rfl,I1.kept (t':=s1.toks) fun b o e=>Heap.get?_push_of_some _ e,turn_tuple a _,⟨_,Heap.get?_push_size _ rfl,rfl,rfl⟩,fun b hb=>?_,q⟩
 have e:b=s1.heap.objs.size:=by simpa using hb
 subst e
 exact I1.fpOk (Nat.le_refl _) (I1.hok.fresh (Nat.le_refl _))
theorem range_it {pins:List (Addr×Obj)}{σ:St}{H:Hp}{s:Shared}{R:It→Hp→Prop}{E:Value→Shared→Prop}{lo hi:Int}{t u v:Tok}{tk:Nat}(I:Inv X pins σ H s)(h1:-(2 ^ 62)≤lo)(h2:lo<2 ^ 62)(h3:-(2 ^ 62)≤hi)(h4:hi<2 ^ 62)
  (q:R (Itr lo (hi-lo).toNat) H):wpAny (model X.prog X.w) X.A (pyIter (.ref s.heap.objs.size)) (PIE X pins σ tg R) E { s with heap:=s.heap.push { cls:=.type "range",data:=.fields #[.int lo t,.int hi u,.int 1 v] },toks:=tk }:=by
 refine wpAny_pyIter_range (IsRange.new ..) (small_one h1 h2 h3 h4) ?_
 have I1:Inv X pins σ H { s with heap:=s.heap.push { cls:=.type "range",data:=.fields #[.int lo t,.int hi u,.int 1 v] },toks:=tk }:=I.kept fun b o e=>Heap.get?_push_of_some _ e
 refine⟨(s.heap.push { cls:=.type "range",data:=.fields #[.int lo t,.int hi u,.int 1 v] }).objs.size,[(s.heap.push { cls:=.type "range",data:=.fields #[.int lo t,.int hi u,.int 1 v] }).objs.size],_,_,H,rfl,
  I1.kept (t':=tk) fun b o e=>Heap.get?_push_of_some _ e,turn_range _ lo (hi-lo).toNat,?_,fun b hb=>?_,q⟩
 ·have e1:lo+((0:Nat):Int)*1=lo:=by simp
  have e2:(((hi-lo).toNat:Nat):Int)-((0:Nat):Int)=Builtin.Range.rangeSize lo hi 1:=by rw[rangeSize_one]; split <;> lia
  show IsRangeIter _ _ (lo+((0:Nat):Int)*1) ((((hi-lo).toNat:Nat):Int)-((0:Nat):Int)) 1
  rw[e1,e2]
  exact Heap.get?_push_size _ rfl
 ·have e:b=(s.heap.push { cls:=.type "range",data:=.fields #[.int lo t,.int hi u,.int 1 v] }).objs.size:=by simpa using hb
  subst e
  exact I1.fpOk (Nat.le_refl _) (I1.hok.fresh (Nat.le_refl _))
def iRng1 (ta:TA):TI:=fun σ H R=>ta σ H fun vs H1=>∃ j:Int,vs=[.int j]∧-(2 ^ 62)≤j∧j<2 ^ 62∧R (Itr 0 j.toNat) H1
def iRng2 (ta:TA):TI:=fun σ H R=>ta σ H fun vs H1=>∃ i j:Int,vs=[.int i,.int j]∧(-(2 ^ 62)≤i∧i<2 ^ 62∧-(2 ^ 62)≤j∧j<2 ^ 62)∧R (Itr i (j-i).toNat) H1
theorem pi_range1 {a:Expr} {ta:TA} {p pos:Pos} (hg:Gl X "range") (hm:X.mg "range"=none) (ha:PA X [a] ta) (hs:starEach [a] X.env=[(false,eval a X.env)]:=by rfl):PI X tg (.Call (.Name "range" p) [a] [] pos) (iRng1 ta):=by
 intro pins s σ H R I h
 refine Call_ (ld_blt I hg hm boot_range (PyProof.Rows.callWith_type1 (thn (ha pos pins s σ H _ I h) fun us s1 ⟨vs,H1,I1,r1,q1⟩=>?_) hs rfl))
 obtain⟨j,e,q1,q2,q⟩:=q1
 subst e
 cases r1 with
 |cons r rr =>
  cases rr
  obtain⟨t,rfl⟩:=r
  exact call_range_1 (range_it I1 (by lia) (by lia) q1 q2 (by simpa using q))
theorem pi_range2 {a b:Expr} {ta:TA} {p pos:Pos} (hg:Gl X "range") (hm:X.mg "range"=none) (ha:PA X [a,b] ta) (hs:starEach [a,b] X.env=[(false,eval a X.env),(false,eval b X.env)]:=by rfl) (hs2:starEach [b] X.env=[(false,eval b X.env)]:=by rfl) :
  PI X tg (.Call (.Name "range" p) [a,b] [] pos) (iRng2 ta):=by
 intro pins s σ H R I h
 refine Call_ (ld_blt I hg hm boot_range (PyProof.Rows.callWith_type1 (thn (ha pos pins s σ H _ I h) fun us s1 ⟨vs,H1,I1,r1,q1⟩=>?_) (by rw[hs,hs2]) (by rw[hs2]; rfl)))
 obtain⟨i,j,e,⟨q1,q2,q3,q4⟩,q⟩:=q1
 subst e
 cases r1 with
 |cons r rr =>
  cases rr with
  |cons r' rr =>
   cases rr
   obtain⟨t,rfl⟩:=r
   obtain⟨t',rfl⟩:=r'
   exact call_range_2 (range_it I1 q1 q2 q3 q4 q)
def tFor (wi:TI)(g:TG)(tb:TS):TS:=fun D σ H=>wi σ H fun J H1=>∃ W:Nat→Nat→St→Hp→Prop,(∃ m,W 0 m σ H1)∧∀ i m σ H,W i m σ H →
 (J.stop i H∧D.nx σ H)∨(J.go i H∧∃ N:St→Hp→Prop,(∀ σ' H',N σ' H'→∃ m',m'<m∧W (i+1) m' σ' H')∧∀ x H',J.yld i H x H'→g x σ H' fun σ2 H2=>tb { D with nx:=N,ct:=N,bk:=D.nx } σ2 H2)
def pinsAt (fp:List Addr)(h:Heap):List (Addr×Obj):=fp.filterMap fun b=>(h.get? b).map fun o=>(b,o)
theorem mem_pinsAt {fp:List Addr}{h:Heap}{b:Addr}{o:Obj}(hb:b∈fp)(e:h.get? b=some o):(b,o)∈pinsAt fp h:=List.mem_filterMap.mpr ⟨b,hb,by rw[e]; rfl⟩
theorem of_pinsAt {fp:List Addr}{h:Heap}{p:Addr×Obj}(hp:p∈pinsAt fp h):p.1∈fp∧h.get? p.1=some p.2:=by
 obtain⟨b,hb,e⟩:=List.mem_filterMap.mp hp
 cases q:h.get? b with
 |none=>rw[q] at e; cases e
 |some o =>
  rw[q] at e
  have e':(b,o)=p:=Option.some.inj e
  subst e'
  exact⟨hb,q⟩
theorem Inv.pinned {pins:List (Addr×Obj)}{σ:St}{H:Hp}{s:Shared}{fp:List Addr}(I:Inv X pins σ H s)(hf:∀ b∈fp,FpOk X pins H b)(ho:∀ b∈fp,∃ o,s.heap.get? b=some o∧∀ v,o.data≠.cell v):Inv X (pins++pinsAt fp s.heap) σ H s :=
 I.pins_of fun p hp=>(List.mem_append.mp hp).elim (fun z=>I.pin p (List.mem_append_right _ z)) fun z=>by
  obtain⟨hb,e⟩:=of_pinsAt z
  obtain⟨f0,f1,f2,_⟩:=hf p.1 hb
  obtain⟨o,e',d⟩:=ho p.1 hb
  rw[e] at e'; cases e'
  exact⟨e,f0,f1,f2,d⟩
theorem Inv.unpinned {pins pl:List (Addr×Obj)}{σ:St}{H:Hp}{s:Shared}(I:Inv X (pins++pl) σ H s):Inv X pins σ H s:=I.pins_of fun p hp=>I.pin p (List.mem_append_right _ (List.mem_append_left _ hp))
theorem ps_for {iter:Expr}{body:List Stmt}{wi:TI}{g:TG}{tb:TS}{pos:Pos}(hp:PassesOwn (model X.prog X.w) X.A X.env X.xe)(hc:X.calm=true)(hi:PI X tg iter wi)(hg:PG X tg g)(hb:PSs X body tb)
  (hs:∀ x,foldedSetIterable iter X.env x=pure x:=by intro _; rfl):PS X (.For tg iter body [] pos) (tFor wi g tb):=by
 intro pins s σ H D I h
 refine wpAny_For (thn (hi pins s σ H _ I h) fun v s1 h1=>thn h1 fun itv s2 h2=>?_) hs
 obtain⟨it,fp,tn,J,H2,e,I2,T,st2,f2,W,⟨m0,w0⟩,turn⟩:=h2
 subst e
 have stat:∀ {H':Hp},(∀ b∈fp,H' b=none)→∀ b∈fp,FpOk X pins H' b:=fun hn b hb=>⟨hn b hb,(f2 b hb).2⟩
 refine codeAny_forLoop_any (fun n s'=>∃ i σ' H',Inv X pins σ' H' s'∧tn i s'.heap∧(∀ b∈fp,H' b=none)∧W i n σ' H') ?_ m0 ⟨0,σ,H2,I2,st2,fun b hb=>(f2 b hb).1,w0⟩
 rintro n s3 ⟨i,σ3,H3,I3,st3,fr3,w3⟩
 rcases turn i n σ3 H3 w3 with ⟨stop,qn⟩ | ⟨go,N,hN,step⟩
 ·refine wpAny_passesOwn hp (thn (T.done X rfl rfl rfl hc i pins s3 σ3 H3 X.xe I3 (stat fr3) st3 stop) fun r s4 ⟨hr,I4⟩=>?_)
  subst hr
  exact wpAny_execs_nil ⟨σ3,H3,I4,qn⟩
 ·refine wpAny_passesOwn hp (thn (T.item X rfl rfl rfl hc i pins s3 σ3 H3 X.xe I3 (stat fr3) st3 go) fun r s4 ⟨u,hr,h4⟩=>?_)
  subst hr
  refine wpAny_passesOwn hp (thn h4 fun _ s5 ⟨x,H5,I5,r5,y5,st5,fr5⟩=>?_)
  have I5':=I5.pinned (stat fr5) (T.obj _ _ st5)
  refine wpAny_passesOwn hp (thn (hg _ s5 σ3 H5 x u _ I5' r5 (step x H5 y5)) fun _ s6 ⟨σ6,H6,I6,q6⟩=>?_)
  refine wpAny_passesOwn hp (thn (hb _ s6 σ6 H6 _ I6 q6) fun f s7 q7=>?_)
  have again:∀ {σ7:St} {H7:Hp},Inv X (pins++pinsAt fp s5.heap) σ7 H7 s7→N σ7 H7→∃ m,m<n∧∃ i σ' H',Inv X pins σ' H' s7∧tn i s7.heap∧(∀ b∈fp,H' b=none)∧W i m σ' H':=fun {σ7 H7} I7 n7=>by
   obtain⟨m',hm,w7⟩:=hN σ7 H7 n7
   refine⟨m',hm,i+1,σ7,H7,I7.unpinned,T.keep _ _ _ st5 fun b hb o e=>(I7.pin (b,o) (List.mem_append_right _ (List.mem_append_right _ (mem_pinsAt hb e)))).1,fun b hb=>?_,w7⟩
   obtain⟨o,e,d⟩:=T.obj _ _ st5 b hb
   exact (I7.pin (b,o) (List.mem_append_right _ (List.mem_append_right _ (mem_pinsAt hb e)))).2.1
  cases f with
  |next=>obtain⟨σ7,H7,I7,n7⟩:=q7; exact again I7 n7
  |cont=>obtain⟨σ7,H7,I7,n7⟩:=q7; exact again I7 n7
  |brk=>obtain⟨σ7,H7,I7,q7⟩:=q7; exact⟨σ7,H7,I7.unpinned,q7⟩
  |ret v=>obtain⟨x7,σ7,H7,I7,r7,q7⟩:=q7; exact⟨x7,σ7,H7,I7.unpinned,r7,q7⟩
end
abbrev R2:=V→V→Hp→VK→Prop
def OpR (X:Cx)(f:Value→Value→Sem Value)(r:R2):Prop :=
 ∀ (pins:List (Addr×Obj)) (s:Shared) (σ:St) (H:Hp) (x y:V) (v u:Value) (Q:VK),Inv X pins σ H s→RelV x v→RelV y u→r x y H Q →
  wpAny (model X.prog X.w) X.A (f v u) (EP X pins σ Q) X.xe s
def UnR (X:Cx)(f:Value→Sem Value)(r:V→Hp→VK→Prop):Prop :=
 ∀ (pins:List (Addr×Obj)) (s:Shared) (σ:St) (H:Hp) (x:V) (v:Value) (Q:VK),Inv X pins σ H s→RelV x v→r x H Q →
  wpAny (model X.prog X.w) X.A (f v) (EP X pins σ Q) X.xe s
def CallR (X:Cx)(f:Value)(r:List V→Hp→VK→Prop):Prop :=
 ∀ (pins:List (Addr×Obj)) (s:Shared) (σ:St) (H:Hp) (xs:List V) (us:List Value) (Q:VK),Inv X pins σ H s→Vals xs us→r xs H Q →
  wpAny (model X.prog X.w) X.A (call f us) (EP X pins σ Q) X.xe s
def tOp (r:R2)(ta tb:TE):TE:=fun σ H Q=>ta σ H fun x H1=>tb σ H1 fun y H2=>r x y H2 Q
def tUn (r:V→Hp→VK→Prop)(ta:TE):TE:=fun σ H Q=>ta σ H fun x H1=>r x H1 Q
def rI (C:Int→Int→Prop)(g:Int→Int→V):R2:=fun x y H Q=>∃ i j,x=.int i∧y=.int j∧C i j∧Q (g i j) H
def rI0 (g:Int→Int→V):R2:=fun x y H Q=>∃ i j,x=.int i∧y=.int j∧Q (g i j) H
def rU (g:Int→V):V→Hp→VK→Prop:=fun x H Q=>∃ i,x=.int i∧Q (g i) H
section
variable {X:Cx}{a b c:Expr}{ta tb tc:TE}{pos:Pos}
theorem binT (ha:PE X a ta)(hb:PE X b tb){pins:List (Addr×Obj)}{s:Shared}{σ:St}{H:Hp}{R:V→V→Hp→Prop}(I:Inv X pins σ H s)
  (h:ta σ H fun x H1=>tb σ H1 fun y H2=>R x y H2) {Q:Value→Shared→Prop} {f:Value→Value→Sem Value}
  (hf:∀ v u s2 x y H2,Inv X pins σ H2 s2→RelV x v→RelV y u→R x y H2→wpAny (model X.prog X.w) X.A (f v u) Q X.xe s2) :
  wpAny (model X.prog X.w) X.A (eval a X.env) (fun v s₁=>wpAny (model X.prog X.w) X.A (eval b X.env) (fun u s₂=>wpAny (model X.prog X.w) X.A (f v u) Q X.xe s₂) X.xe s₁) X.xe s:=by
 refine thn (ha pins s σ H _ I h) fun v s1 ⟨x,H1,I1,r1,q1⟩=>?_
 refine thn (hb pins s1 σ H1 _ I1 q1) fun u s2 ⟨y,H2,I2,r2,q2⟩=>?_
 exact hf v u s2 x y H2 I2 r1 r2 q2
theorem pe_op {op:Operator}{r:R2}(ho:OpR X (binaryOp op) r)(ha:PE X a ta)(hb:PE X b tb):PE X (.BinOp a op b pos) (tOp r ta tb):=by
 intro pins s σ H Q I h
 exact wpAny_BinOp (binT ha hb I h fun v u s2 x y H2 I2 rx ry q=>ho pins s2 σ H2 x y v u Q I2 rx ry q)
theorem pe_un {op:UnaryOp}{r:V→Hp→VK→Prop}(ho:UnR X (unaryOp op) r)(ha:PE X a ta):PE X (.UnaryOp op a pos) (tUn r ta):=by
 intro pins s σ H Q I h
 exact UnaryOp_ (thn (ha pins s σ H _ I h) fun v s1 ⟨x,H1,I1,r1,q1⟩=>ho pins s1 σ H1 x v Q I1 r1 q1)
theorem opI {f:Value→Value→Sem Value}{C:Int→Int→Prop}{g:Int→Int→Int}
  (rule:∀ (i j:Int) (t u:Tok) (s:Shared) (Q:Value→Shared→Prop) (E:Value→Shared→Prop),C i j→Q (.int (g i j) s.toks) { s with toks:=s.toks+1 }→wpAny (model X.prog X.w) X.A (f (.int i t) (.int j u)) Q E s) :
  OpR X f (rI C fun i j=>.int (g i j)):=by
 intro pins s σ H x y v u Q I rx ry h
 obtain⟨i,j,rfl,rfl,hc,q⟩:=h
 obtain⟨t,rfl⟩:=rx
 obtain⟨t',rfl⟩:=ry
 exact rule i j t t' s _ _ hc ⟨.int (g i j),H,I.tok _,⟨_,rfl⟩,q⟩
theorem opI0 {f:Value→Value→Sem Value}{g:Int→Int→Int}
  (rule:∀ (i j:Int) (t u:Tok) (s:Shared) (Q:Value→Shared→Prop) (E:Value→Shared→Prop),Q (.int (g i j) s.toks) { s with toks:=s.toks+1 }→wpAny (model X.prog X.w) X.A (f (.int i t) (.int j u)) Q E s) :
  OpR X f (rI0 fun i j=>.int (g i j)):=by
 intro pins s σ H x y v u Q I rx ry h
 obtain⟨i,j,rfl,rfl,q⟩:=h
 obtain⟨t,rfl⟩:=rx
 obtain⟨t',rfl⟩:=ry
 exact rule i j t t' s _ _ ⟨.int (g i j),H,I.tok _,⟨_,rfl⟩,q⟩
theorem opB0 {f:Value→Value→Sem Value}{g:Int→Int→Bool}
  (rule:∀ (i j:Int) (t u:Tok) (s:Shared) (Q:Value→Shared→Prop) (E:Value→Shared→Prop),Q (.bool (g i j)) s→wpAny (model X.prog X.w) X.A (f (.int i t) (.int j u)) Q E s) :
  OpR X f (rI0 fun i j=>.bl (g i j)):=by
 intro pins s σ H x y v u Q I rx ry h
 obtain⟨i,j,rfl,rfl,q⟩:=h
 obtain⟨t,rfl⟩:=rx
 obtain⟨t',rfl⟩:=ry
 exact rule i j t t' s _ _ ⟨.bl (g i j),H,I,rfl,q⟩
def CDiv (i j:Int):Prop:=0<j∧j<1073741824
def CMul (i j:Int):Prop:=(-(2 ^ 64)<i∧i<2 ^ 64)∨(-(2 ^ 64)<j∧j<2 ^ 64)
theorem CMul.ok {i j:Int}(h:CMul i j):IntMulOk i j:=by
 rcases h with ⟨h1,h2⟩ | ⟨h1,h2⟩
 ·exact .of_left (intBits_le_64 h1 h2)
 ·exact .of_right (intBits_le_64 h1 h2)
theorem op_add:OpR X (binaryOp .Add) (rI0 fun i j=>.int (i+j)):=opI0 fun _ _ _ _ _ _ _ q=>add_int q
theorem op_sub:OpR X (binaryOp .Sub) (rI0 fun i j=>.int (i-j)):=opI0 fun _ _ _ _ _ _ _ q=>sub_int q
theorem op_mul:OpR X (binaryOp .Mult) (rI CMul fun i j=>.int (i*j)):=opI fun _ _ _ _ _ _ _ hc q=>mul_int q hc.ok
theorem op_fdiv:OpR X (binaryOp .FloorDiv) (rI CDiv fun i j=>.int (i / j)):=opI fun i j _ _ _ _ _ hc q=>by
 have h1:(0:Int)<j:=hc.1
 have h2:j<1073741824:=hc.2
 exact floordiv_int (by lia) (by rw[Int.fdiv_eq_ediv_of_nonneg i (by lia)]; exact q) (.inl (PyProof.noPylong_small (by lia)))
theorem op_mod:OpR X (binaryOp .Mod) (rI (fun _ j=>0<j) fun i j=>.int (i%j)):=opI fun i j _ _ _ _ _ hc q=>by
 have h1:(0:Int)<j:=hc
 exact mod_int' (by lia) (by rw[Int.fmod_eq_emod_of_nonneg i (by lia)]; exact q)
theorem unI {f:Value→Sem Value}{g:Int→Int}
  (rule:∀ (i:Int) (t:Tok) (s:Shared) (Q:Value→Shared→Prop) (E:Value→Shared→Prop),Q (.int (g i) s.toks) { s with toks:=s.toks+1 }→wpAny (model X.prog X.w) X.A (f (.int i t)) Q E s) :
  UnR X f (rU fun i=>.int (g i)):=by
 intro pins s σ H x v Q I rx h
 obtain⟨i,rfl,q⟩:=h
 obtain⟨t,rfl⟩:=rx
 exact rule i t s _ _ ⟨.int (g i),H,I.tok _,⟨_,rfl⟩,q⟩
theorem un_neg:UnR X (unaryOp .USub) (rU fun i=>.int (-i)):=unI fun _ _ _ _ _ q=>neg_int q
theorem fin_bl {pins:List (Addr×Obj)}{σ:St}{H:Hp}{s:Shared}{Q:VK}{k k':Bool}(I:Inv X pins σ H s)(q:Q (.bl k) H)(e:k=k'):EP X pins σ Q (.bool k') s:=by
 subst e
 exact⟨.bl k,H,I,rfl,q⟩
theorem op_lt:OpR X (compareOp .Lt) (rI0 fun i j=>.bl (decide (i<j))):=opB0 fun _ _ _ _ _ _ _ q=>lt_int q
theorem op_gt:OpR X (compareOp .Gt) (rI0 fun i j=>.bl (decide (j<i))):=opB0 fun _ _ _ _ _ _ _ q=>gt_int q
theorem op_ge:OpR X (compareOp .GtE) (rI0 fun i j=>.bl (decide (j≤i))):=opB0 fun _ _ _ _ _ _ _ q=>ge_int q
theorem op_lt_str:OpR X (compareOp .Lt) (fun x y H Q=>∃ i j,x=.str i∧y=.str j∧Q (.bl (decide (i.cps.toList<j.cps.toList))) H):=by
 intro pins s σ H x y v u Q I rx ry h
 obtain⟨i,j,rfl,rfl,q⟩:=h
 obtain⟨t,rfl⟩:=rx
 obtain⟨t',rfl⟩:=ry
 exact lt_str (fin_bl I q rfl)
theorem op_isN:OpR X (compareOp .Is) (fun x y H Q=>y=.non∧Q (.bl (decide (x=.non))) H):=by
 intro pins s σ H x y v u Q I rx ry h
 obtain⟨rfl,q⟩:=h
 cases ry
 refine is_none_gen (fin_bl I q ?_)
 cases x <;> first
  |(cases rx; rfl)
  |(obtain⟨t,rfl⟩:=rx; rfl)
theorem op_notN:OpR X (compareOp .IsNot) (fun x y H Q=>y=.non∧Q (.bl (!decide (x=.non))) H):=by
 intro pins s σ H x y v u Q I rx ry h
 obtain⟨rfl,q⟩:=h
 cases ry
 refine isnot_none_gen (fin_bl I q ?_)
 cases x <;> first
  |(cases rx; rfl)
  |(obtain⟨t,rfl⟩:=rx; rfl)
theorem OpR.or {f:Value→Value→Sem Value}{r r':R2}(h:OpR X f r)(h':OpR X f r'):OpR X f (fun x y H Q=>r x y H Q∨r' x y H Q):=by
 intro pins s σ H x y v u Q I rx ry q
 rcases q with q | q
 ·exact h pins s σ H x y v u Q I rx ry q
 ·exact h' pins s σ H x y v u Q I rx ry q
theorem nomark (b:Expr){op:CmpOp}(h:op≠.In:=by decide)(h2:op≠.NotIn:=by decide):behindInMarks op b=false:=by
 have e1:(op == CmpOp.In)=false:=by cases op <;> first | rfl | exact absurd rfl h
 have e2:(op == CmpOp.NotIn)=false:=by cases op <;> first | rfl | exact absurd rfl h2
 cases b <;> simp[behindInMarks,e1,e2]
theorem pe_cmpR {op:CmpOp}{r:R2}(ho:OpR X (compareOp op) r)(ha:PE X a ta)(hb:PE X b tb)(hm:behindInMarks op b=false):PE X (.Compare a [op] [b] pos) (tOp r ta tb):=by
 intro pins s σ H Q I h
 exact wpAny_Compare1 (binT ha hb I h fun v u s2 x y H2 I2 rx ry q=>ho pins s2 σ H2 x y v u Q I2 rx ry q) hm
def tTest (t:TE):TT:=fun σ H Q=>t σ H fun x H'=>∃ k,x=.bl k∧Q k H'
theorem pt_cmpR {op:CmpOp}{r:R2}(ho:OpR X (compareOp op) r)(ha:PE X a ta)(hb:PE X b tb)(hm:behindInMarks op b=false):PT X (.Compare a [op] [b] pos) (tTest (tOp r ta tb)):=by
 intro pins s σ H Q I h
 refine wpAny_isTrue_Compare1 (thn (ha pins s σ H _ I h) fun v s1 ⟨x,H1,I1,r1,q1⟩=>thn (hb pins s1 σ H1 _ I1 q1) fun u s2 ⟨y,H2,I2,r2,q2⟩ =>
  thn (ho pins s2 σ H2 x y v u _ I2 r1 r2 q2) fun c s3 ⟨z,H3,I3,r3,k,e,q3⟩=>?_) hm
 subst e
 cases r3
 exact wpAny_truthy_bool ⟨H3,I3,q3⟩
theorem line63:(sizeLine:Nat)<2 ^ 63:=by rw[sizeLine_eq]; decide
theorem op_add_str:OpR X (binaryOp .Add) (fun x y H Q=>∃ i j,x=.str i∧y=.str j∧i.length+j.length≤sizeLine∧Q (.str (i++j)) H):=by
 intro pins s σ H x y v u Q I rx ry h
 obtain⟨i,j,rfl,rfl,hz,q⟩:=h
 obtain⟨t,rfl⟩:=rx
 obtain⟨t',rfl⟩:=ry
 exact add_str (fun t' tk=>⟨.str (i++j),H,I.tok _,⟨_,rfl⟩,q⟩) hz
theorem vals1 {x:V}{us:List Value}(r:Vals [x] us):∃ u,us=[u]∧RelV x u:=by
 cases r with
 |cons r1 r2=>cases r2; exact⟨_,rfl,r1⟩
end
structure Room (k:Nat)(A:Around):Prop where
 hd:A.handled=none
 dp:A.depth+3*k+5<recursionLimit
 un:A.units+16*k+200<cLine
theorem Room.mono {j k:Nat}{A:Around}(r:Room k A)(h:j≤k):Room j A:=⟨r.hd,by have:=r.dp; lia,by have:=r.un; lia⟩
theorem Room.deeper {k:Nat}{A:Around}(r:Room (k+1) A)(env:Env):Room k (A.deeper env) :=
 ⟨r.hd,by have:=r.dp; show A.depth+1+3*k+5<_; lia,by have:=r.un; show A.units+3+16*k+200<_; lia⟩
theorem Room.in1 {k:Nat}{A:Around}(r:Room (k+1) A):Room k A.in1 :=
 ⟨r.hd,by have:=r.dp; show A.depth+3*k+5<_; lia,by have:=r.un; show A.units+1+16*k+200<_; lia⟩
theorem Room.depth {k:Nat}{A:Around}(r:Room k A):A.depth<recursionLimit:=by have:=r.dp; lia
theorem Room.units {k:Nat}{A:Around}(r:Room k A):A.units+64<cLine:=by have:=r.un; lia
theorem Room.units0 {k:Nat}{A:Around}(r:Room k A):A.units<cLine:=by have:=r.un; lia
def tNil:TA:=fun _ H Q=>Q [] H
def tCons (ta:TE)(tr:TA):TA:=fun σ H Q=>ta σ H fun x H1=>tr σ H1 fun xs H2=>Q (x::xs) H2
section
variable {X:Cx}{e:Expr}{es:List Expr}{te:TE}{t:TA}{pos:Pos}
theorem pa_nil:PA X [] tNil:=fun _ _ _ _ H Q I h=>Calls.spliced_nil ⟨[],H,I,.nil,h⟩
theorem pa_cons (ha:PE X e te)(hr:PA X es t)(hs:starEach (e::es) X.env=(false,eval e X.env)::starEach es X.env:=by rfl):PA X (e::es) (tCons te t):=by
 intro pos pins s σ H Q I h
 rw[hs]
 show wpAny _ _ (spliced ((false,eval e X.env)::backTo pos (starEach es X.env))) _ _ s
 refine Calls.spliced_cons (thn (ha pins s σ H _ I h) fun u s1 ⟨x,H1,I1,r1,q1⟩=>?_)
 exact thn (hr pos pins s1 σ H1 _ I1 q1) fun us s2 ⟨xs,H2,I2,r2,q2⟩=>⟨x::xs,H2,I2,.cons r1 r2,q2⟩
def tTup (t:TA):TE:=fun σ H Q=>t σ H fun xs H1=>xs.length≤sizeLine∧∀ p,H1 p=none→Q (.ref p) (upd H1 p (.tup xs))
def tLst (t:TA):TE:=fun σ H Q=>t σ H fun xs H1=>xs.length≤sizeLine∧∀ p,H1 p=none→Q (.ref p) (upd H1 p (.lst xs))
theorem pe_tup {x1}(h:PA X es t):PE X (.Tuple es x1 pos) (tTup t):=by
 intro pins s σ H Q I hq
 refine wpAny_Tuple_spliced (thn (h pos pins s σ H _ I hq) fun us s1 ⟨xs,H1,I1,r,z,q⟩=>⟨by rw[← r.length]; exact z,?_⟩)
 have hf:H1 s1.heap.objs.size=none:=I1.hok.fresh (Nat.le_refl _)
 refine⟨.ref s1.heap.objs.size,upd H1 s1.heap.objs.size (.tup xs),I1.laid (t':=s1.toks) (fun b u e=>Heap.get?_push_of_some _ e) (Nat.le_refl _) ?_,rfl,q _ hf⟩
 exact⟨z,us,r,⟨_,Heap.get?_push_size _ rfl,rfl,_,rfl⟩⟩
theorem pe_lst (h:PA X es t):PE X (.List es pos) (tLst t):=by
 intro pins s σ H Q I hq
 refine wpAny_List_spliced (thn (h pos pins s σ H _ I hq) fun us s1 ⟨xs,H1,I1,r,z,q⟩=>⟨by rw[← r.length]; exact z,?_⟩)
 have hf:H1 s1.heap.objs.size=none:=I1.hok.fresh (Nat.le_refl _)
 refine⟨.ref s1.heap.objs.size,upd H1 s1.heap.objs.size (.lst xs),I1.laid (t':=s1.toks) (fun b u e=>Heap.get?_push_of_some _ e) (Nat.le_refl _) ?_,rfl,q _ hf⟩
 exact⟨z,us,0,r,Heap.get?_push_size _ rfl⟩
end
abbrev Sp:=List V→Hp→VK→XK→Prop
abbrev CXT:=List Env→Hp→Shared→XK→Value→Shared→Prop
structure Env0 (P:Program)(w:World)(K:PySem.W.Frag)(mg:Str→Option Value)(base:Heap)(A:Around)(outer:List Env)(s:Shared)(H:Hp):Prop where
 frames:A.frames=some outer
 mod:Mod K mg base
 bs:∀ b o,base.get? b=some o→s.heap.get? b=some o∧H b=none
 bsz:base.objs.size≤s.heap.objs.size
 funs:s.heap.FunFrames base outer
 frf:∀ b∈frs outer,H b=none
 hok:HOk P w H s.heap
 bare:AllBare s.gens
def CE (outer:List Env)(P:Program)(w:World)(H:Hp)(s:Shared)(Q:VK)(u:Value)(s':Shared):Prop :=
 ∃ v H',s'.os=s.os∧AllBare s'.gens∧Un (frs outer) [] H H' s.heap s'.heap∧HOk P w H' s'.heap∧RelV v u∧Q v H'
def CR (CX:CXT)(outer:List Env)(P:Program)(w:World)(H:Hp)(s:Shared)(Q:VK)(E:XK)(r:Result)(s':Shared):Prop :=
 match r with
 |.ok (.ret u)=>CE outer P w H s Q u s'
 |.ok _=>False
 |.error e=>CX outer H s E e s'
structure FnOk (P:Program)(w:World)(K:PySem.W.Frag)(mg:Str→Option Value)(base:Heap)(CX:CXT)(k:Nat)(f:Addr)(fd:FuncData)(ps:List Str)(sp:Sp):Prop where
 len:∀ vs H Q E,sp vs H Q E→vs.length=ps.length
 run:∀ (A:Around) (outer:List Env) (s:Shared) (H:Hp) (args:Args) (us:List Value) (vs:List V) (Q:VK) (E:XK),Room k A→Env0 P w K mg base A outer s H→BindsTo s fd args (ps.zip us)→Vals vs us→sp vs H Q E →
  codeAny (model P w) A (.call (.ref f) args) (CR CX outer P w H s Q E) s
theorem FnOk.mono {P:Program}{w:World}{K:PySem.W.Frag}{mg:Str→Option Value}{base:Heap}{CX:CXT}{j k:Nat}{f:Addr}{fd:FuncData}{ps:List Str}{sp:Sp}(F:FnOk P w K mg base CX j f fd ps sp)(h:j≤k) :
  FnOk P w K mg base CX k f fd ps sp:=⟨F.len,fun A outer s H args us vs Q E hr=>F.run A outer s H args us vs Q E (hr.mono h)⟩
section
variable {X:Cx}{pins:List (Addr×Obj)}{σ:St}{H:Hp}{s s':Shared}
theorem Inv.env0 (I:Inv X pins σ H s):Env0 X.prog X.w X.K X.mg X.base X.A X.stack s H :=
 ⟨I.ok.frames,I.ok.mod,I.bs,Nat.le_trans I.ok.bsz I.sz,I.stack,I.stkFree,I.hok,I.bare⟩
theorem Inv.after {Q:VK}{u:Value}(I:Inv X pins σ H s)(h:CE X.stack X.prog X.w H s Q u s'):EP X pins σ Q u s':=by
 obtain⟨v,H',os,bare,un,hok,r,q⟩:=h
 obtain⟨hh,g,d,t,os'⟩:=s'
 obtain rfl:os'=s.os:=os
 exact⟨v,H',I.call (h':=hh) (g':=g) (d':=d) (t':=t) (ch:=[]) un hok bare (fun b z=>absurd z (by simp)),r,q⟩
end
def tCall (sp:Sp)(dvs:List V)(E:XK)(t:TA):TE:=fun σ H Q=>t σ H fun vs H1=>sp (vs++dvs) H1 Q E
def Binds (K:PySem.W.Frag)(fd:FuncData)(ps:List Str)(ds:List Value):Prop :=
 ∀ (s:Shared) (us:List Value),K.In s.heap→(us++ds).length=ps.length→BindsTo s fd ⟨us,[]⟩ (ps.zip (us++ds))
theorem Binds.all {K:PySem.W.Frag}{fd:FuncData}{ps:List Str}(h:∀ us:List Value,us.length=ps.length→bindArgs fd ⟨us,[]⟩=pure (ps.zip us)):Binds K fd ps []:=fun s us _ hl=>by
 rw[List.append_nil] at hl ⊢
 exact .of_eq (h us hl)
def Passes (CX:CXT)(X:Cx)(E:XK):Prop:=∀ (pins:List (Addr×Obj)) (σ:St) (H:Hp) (s:Shared) (e:Value) (s':Shared),Inv X pins σ H s→CX X.stack H s E e s'→X.xe e s'
section
variable {X:Cx}{CX:CXT}{k:Nat}{f C:Addr}{fd:FuncData}{ps:List Str}{sp:Sp}{dvs:List V}{ds:List Value}{E:XK}{x m:Str}{p pos apos:Pos}{e o:Expr}{es:List Expr}{ta:TE}{t:TA}
theorem run_fn {pins:List (Addr×Obj)}{σ:St}{H:Hp}{s:Shared}{Q:VK}{us:List Value}{vs:List V}(F:FnOk X.prog X.w X.K X.mg X.base CX k f fd ps sp)(hr:Room k X.A)(hb:Binds X.K fd ps ds)(hd:Vals dvs ds)(hx:Passes CX X E)
  (I:Inv X pins σ H s) (r:Vals vs us) (h:sp (vs++dvs) H Q E):wpAny (model X.prog X.w) X.A (call (.ref f) us) (EP X pins σ Q) X.xe s:=by
 have r2:Vals (vs++dvs) (us++ds):=r.append hd
 have hl:(us++ds).length=ps.length:=by rw[← r2.length]; exact F.len _ _ _ _ h
 refine wpAny_call (codeAny_mono (F.run X.A X.stack s H ⟨us,[]⟩ (us++ds) (vs++dvs) Q E hr I.env0 (hb s us I.kIn hl) r2 h) fun r s' hq=>?_)
 cases r with
 |error e=>exact hx pins σ H s e s' I hq
 |ok fl =>
  cases fl with
  |ret u=>exact I.after hq
  |next=>exact False.elim hq
  |brk=>exact False.elim hq
  |cont=>exact False.elim hq
theorem pe_call (F:FnOk X.prog X.w X.K X.mg X.base CX k f fd ps sp)(hr:Room k X.A)(hg:Gl X x)(hm:X.mg x=some (.ref f))(hk:PySem.W.keepIn X.K (.ref f)=true)(hb:Binds X.K fd ps ds)(hd:Vals dvs ds)(hx:Passes CX X E)
  (ha:PA X (e::es) t) (hdb:(x == ("__debug__":Str))=false:=by decide) (he:starEach (e::es) X.env=(false,eval e X.env)::starEach es X.env:=by rfl) (hpl:(backTo pos (starEach es X.env)).any (·.1)=false:=by rfl) :
  PE X (.Call (.Name x p) (e::es) [] pos) (tCall sp dvs E t):=by
 intro pins s σ H Q I h
 refine wpAny_Call_Name_kw (ld_glob I hg hm ?_ hdb)
 refine PySem.W.callWith_K (h₀:=X.base) I.ok.mod.kin hk (thn (ha pos pins s σ H _ I h) fun us s1 ⟨vs,H1,I1,r,q⟩=>⟨I1.kIn,?_⟩) he hpl
 exact run_fn F hr hb hd hx I1 r q
end
structure FnScope (N P:List Str)(sc:Scope):Prop where
 kind:sc.kind=.function
 co:sc.isCoroutine=false
 gen:sc.isGenerator=false
 nd:N.Nodup
 pre:N.take P.length=P
 par:∀ x∈P,sc.names.lookup x=some .local∨sc.names.lookup x=some .cell
 nofree:∀ y∈sc.names,y.2≠.free
theorem bindL_out {kindOf:Str→Option NameKind}{x:Str}:∀ {binds:List (Str×Value)} {m:Str→Option Value},(∀ v,(x,v)∉binds)→bindL kindOf binds m x=m x
 |[],_,_=>rfl
 |(n,v)::r,m,h=>by
  unfold bindL
  rw[bindL_out fun w hw=>h w (List.mem_cons_of_mem _ hw)]
  split
  ·have:x≠n:=by rintro rfl; exact h v List.mem_cons_self
   simp[this]
  ·rfl
theorem bindC_out {kindOf:Str→Option NameKind}{x:Str}:∀ {binds:List (Str×Value)} {m:Str→Option Value},(∀ v,(x,v)∉binds)→bindC kindOf binds m x=m x
 |[],_,_=>rfl
 |(n,v)::r,m,h=>by
  unfold bindC
  rw[bindC_out fun w hw=>h w (List.mem_cons_of_mem _ hw)]
  split
  ·rfl
  ·have:x≠n:=by rintro rfl; exact h v List.mem_cons_self
   simp[this]
theorem bindL_get {kindOf:Str→Option NameKind}{x:Str}{v:Value}:∀ {P:List Str} {vs:List Value} {i:Nat} {m:Str→Option Value},P.Nodup→P[i]?=some x→vs[i]?=some v→kindOf x=some .local →
  bindL kindOf (P.zip vs) m x=some v
 |[],_,_,_,_,h,_,_=>by simp at h
 |_::_,[],_,_,_,_,h,_=>by simp at h
 |p::P,w::vs,0,m,nd,h1,h2,hk=>by
  simp at h1 h2; subst h1; subst h2
  show bindL kindOf ((p,w)::P.zip vs) m p=_
  unfold bindL
  rw[bindL_out fun v hv=>(List.nodup_cons.mp nd).1 (List.of_mem_zip hv).1,if_pos hk]
  simp
 |p::P,w::vs,i+1,m,nd,h1,h2,hk=>by
  show bindL kindOf ((p,w)::P.zip vs) m x=_
  unfold bindL
  exact bindL_get (i:=i) (List.nodup_cons.mp nd).2 (by simpa using h1) (by simpa using h2) hk
theorem bindC_get {kindOf:Str→Option NameKind}{x:Str}{v:Value}:∀ {P:List Str} {vs:List Value} {i:Nat} {m:Str→Option Value},P.Nodup→P[i]?=some x→vs[i]?=some v→kindOf x≠some .local →
  bindC kindOf (P.zip vs) m x=some v
 |[],_,_,_,_,h,_,_=>by simp at h
 |_::_,[],_,_,_,_,h,_=>by simp at h
 |p::P,w::vs,0,m,nd,h1,h2,hk=>by
  simp at h1 h2; subst h1; subst h2
  show bindC kindOf ((p,w)::P.zip vs) m p=_
  unfold bindC
  rw[bindC_out fun v hv=>(List.nodup_cons.mp nd).1 (List.of_mem_zip hv).1,if_neg hk]
  simp
 |p::P,w::vs,i+1,m,nd,h1,h2,hk=>by
  show bindC kindOf ((p,w)::P.zip vs) m x=_
  unfold bindC
  exact bindC_get (i:=i) (List.nodup_cons.mp nd).2 (by simpa using h1) (by simpa using h2) hk
def start (N:List Str)(vs:List V):St:=vs.map some++List.replicate (N.length-vs.length) none
def cxOf (CX:CXT)(P:Program)(w:World)(K:PySem.W.Frag)(mg:Str→Option Value)(base:Heap)(N:List Str)(qual:Str)(scope:Scope)(f:Addr)(cd:Value)(A:Around)(outer:List Env)(s:Shared)(H:Hp)(E:XK):Cx where
 prog:=P
 w:=w
 K:=K
 mg:=mg
 base:=base
 A:=A.deeper (envOfC qual scope s.heap.objs.size f cd)
 N:=N
 s₀:=s
 H₀:=H
 env:=envOfC qual scope s.heap.objs.size f cd
 outer:=outer
 stack:=envOfC qual scope s.heap.objs.size f cd::outer
 ex:=[]
 calm:=true
 fn:=fun _=>true
 pn:=[]
 xe:=fun e s'=>wpAny (model P w) (A.deeper (envOfC qual scope s.heap.objs.size f cd)) (leaving (envOfC qual scope s.heap.objs.size f cd) e) (fun _ s''=>CX outer H s E e s'') (fun e' s''=>CX outer H s E e' s'') s'
theorem cell_has {sc:Scope}{n:Nat}{x:Str}(h:sc.names.lookup x=some .cell):∃ c,(cellsFrom n sc.names []).lookup x=some c:=by
 have q:=PySem.W.cellsFrom_some sc.names n [] (.inl h)
 exact Option.isSome_iff_exists.mp q
theorem inv_start {CX:CXT}{P:Program}{w:World}{K:PySem.W.Frag}{mg:Str→Option Value}{base:Heap}{N ps:List Str}{qual:Str}{scope:Scope}{f:Addr}{cd:Value}{A:Around}{outer:List Env}{s s1:Shared}{H:Hp}{E:XK}{us:List Value}{vs:List V}
  (S:FnScope N ps scope) (hd:A.handled=none) (e0:Env0 P w K mg base A outer s H) (hl:vs.length=ps.length) (r:Vals vs us)
  (x:InCallC s s.heap.objs.size (bindL (envOfC qual scope s.heap.objs.size f cd).kindOf (ps.zip us) fun _=>none) (cellsFrom (s.heap.objs.size+1) scope.names []) (bindC (envOfC qual scope s.heap.objs.size f cd).kindOf (ps.zip us) fun _=>none) s1) :
  Inv (cxOf CX P w K mg base N qual scope f cd A outer s H E) [] (start N vs) H s1:=by
 have hpl:ps.length≤N.length:=by have:=congrArg List.length S.pre; rw[List.length_take] at this; lia
 obtain⟨h1,tk,rfl,hk⟩:=x.done
 have noA:∀ b:Addr,b∉(cxOf CX P w K mg base N qual scope f cd A outer s H E).ex:=fun b z=>absurd (show b∈([]:List Addr) from z) (by simp)
 refine⟨⟨e0.mod,S.kind,rfl,rfl,Nat.le_refl _,fun y z c h1 h2=>?_,fun y hy=>?_,fun y c _ h=>?_,fun _=>hd,Around.frames_deeper e0.frames,.inr ⟨rfl,rfl⟩,fun b z=>absurd z (noA b),e0.bs,e0.bsz,fun b _ _=>noA b,fun b z=>absurd z (noA b),e0.funs,e0.frf⟩,
  rfl,e0.bare,Un.kept hk,⟨_,x.toInCall.ns,fun i y v h1 h2 h3=>?_⟩,fun y c h=>⟨_,x.cell y c h⟩,e0.hok.fresh (Nat.le_refl _),fun y c h=>?_,fun p hp=>absurd (show p∈([]:List (Addr×Obj)) from hp) (by simp),e0.hok.kept hk,?_⟩
 ·exact name_of_addr x.apart (PySem.mem_of_lookup h1) (PySem.mem_of_lookup h2)
 ·have hy:scope.names.lookup y=some .cell∨scope.names.lookup y=some .free:=hy
  rcases hy with hy | hy
  ·exact cell_has hy
  ·exact absurd rfl (S.nofree _ (PySem.mem_of_lookup hy))
 ·exact Nat.le_of_lt (x.above y c (PySem.mem_of_lookup h))
 ·have hi:i<vs.length:=by
   unfold start at h2
   by_cases hi:i<vs.length
   ·exact hi
   ·rw[List.getElem?_append_right (by simpa using hi)] at h2
    rw[List.getElem?_replicate] at h2
    split at h2 <;> cases h2
  have ha:vs[i]?=some v:=by
   unfold start at h2
   rw[List.getElem?_append_left (by simpa using hi),List.getElem?_map] at h2
   cases e:vs[i]? with
   |none=>rw[e] at h2; cases h2
   |some a=>rw[e] at h2; cases h2; rfl
  obtain⟨u,hu,rv⟩:=r.get ha
  have hp:ps[i]?=some y:=by
   rw[← S.pre,List.getElem?_take_of_lt (by lia)]; exact h1
  have ndP:ps.Nodup:=by rw[← S.pre]; exact S.nd.sublist (List.take_sublist _ _)
  refine⟨u,rv,?_⟩
  rcases S.par y (List.mem_of_getElem? hp) with k | k
  ·exact .inl ⟨k,bindL_get ndP hp hu k⟩
  ·obtain⟨c,e⟩:=cell_has (n:=s.heap.objs.size+1) k
   refine .inr ⟨.inl k,c,e,?_⟩
   have q:=x.cell y c e
   rw[bindC_get ndP hp hu (by show scope.names.lookup y≠_; rw[k]; decide)] at q
   exact q
 ·exact e0.hok.fresh (Nat.le_of_lt (x.above y c (PySem.mem_of_lookup h)))
 ·unfold start
  show _=N.length
  rw[List.length_append,List.length_map,List.length_replicate]
  lia
theorem fn_of {CX:CXT}{P:Program}{w:World}{K:PySem.W.Frag}{mg:Str→Option Value}{base:Heap}{k:Nat}{f:Addr}{name qual:Str}{params:Arguments}{body:List Stmt}{scope:Scope}{dV kV doc pm cdv ct oc:Value}{an od:Option Addr}
  {osl:Array (Option Value)} {N ps:List Str} {sp:Sp} (lk:K.lookup f=some ⟨oc,od,.func (PySem.W.fnOf name qual params body scope dV kV doc pm an cdv ct),osl⟩) (hcd:PySem.W.codeIn K cdv qual=true) (S:FnScope N ps scope)
  (len:∀ vs H Q E,sp vs H Q E→vs.length=ps.length)
  (hbody:∀ (A:Around) (outer:List Env) (s:Shared) (H:Hp) (vs:List V) (Q:VK) (E:XK),Room k (A.deeper (envOfC qual scope s.heap.objs.size f cdv))→sp vs H Q E →
   ∃ t,PSs (cxOf CX P w K mg base N qual scope f cdv A outer s H E) body t∧t { nx:=fun _ H'=>Q .non H',rt:=Q } (start N vs) H) :
  FnOk P w K mg base CX (k+1) f (PySem.W.fnOf name qual params body scope dV kV doc pm an cdv ct) ps sp:=by
 refine⟨len,fun A outer s H args us vs Q E hr e0 hb r hsp=>?_⟩
 have hl:=len _ _ _ _ hsp
 have KX:K.In s.heap:=e0.mod.kin.keeps fun b o e=>(e0.bs b o e).1
 have lim:s.heap.NoLimit:=e0.mod.nolimit.keeps fun b o e=>(e0.bs b o e).1
 have hkind:∀ y∈ps.zip us,scope.names.lookup y.1=some .local∨(scope.names.lookup y.1=some .cell∧((cellsFrom (s.heap.objs.size+1) scope.names []).lookup y.1).isSome=true):=fun ⟨n,v⟩ hy=>by
  rcases S.par n (List.of_mem_zip hy).1 with q | q
  ·exact .inl q
  ·exact .inr ⟨q,PySem.W.cellsFrom_some _ _ _ (.inl q)⟩
 refine codeAny_call_function hr.depth (KX _ _ lk) rfl S.co S.gen rfl (PySem.W.codeRec_of KX hcd) (hb _ _ _ _ ?_)
 refine wpAny_newFunctionEnv_cells S.kind hkind fun env he s1 x=>?_
 subst he
 refine⟨lim.keeps x.toInCall.keep,codeAny_func ?_⟩
 obtain⟨t,ht,hq⟩:=hbody A outer s H vs Q E (hr.deeper _) hsp
 have I:Inv (cxOf CX P w K mg base N qual scope f cdv A outer s H E) [] (start N vs) H s1:=inv_start S hr.hd e0 hl r x
 refine wpAny_mono (ht [] s1 (start N vs) H _ I hq) (fun fl s' hs=>?_) fun e s' hs=>hs
 have fin:∀ {σ':St} {H':Hp} {v:V} {u:Value},Inv (cxOf CX P w K mg base N qual scope f cdv A outer s H E) [] σ' H' s'→RelV v u→Q v H'→CE outer P w H s Q u s' :=
  fun {σ' H' v u} J rv q=>⟨v,H',J.os,J.bare,J.base,J.hok,rv,q⟩
 cases fl with
 |ret u =>
  obtain⟨v,σ',H',J,rv,q⟩:=hs
  exact fin J rv q
 |next =>
  obtain⟨σ',H',J,q⟩:=hs
  exact fin (v:=V.non) (u:=Value.none) J rfl q
 |brk =>
  obtain⟨_,_,_,q⟩:=hs
  exact False.elim q
 |cont =>
  obtain⟨_,_,_,q⟩:=hs
  exact False.elim q
section
variable {X:Cx}{x:Str}{p pos:Pos}{e:Expr}{es:List Expr}{t:TA}{id T:String}{r:List V→Hp→VK→Prop}
def tCB (r:List V→Hp→VK→Prop)(t:TA):TE:=fun σ H Q=>t σ H fun vs H1=>r vs H1 Q
theorem pe_callB (hc:CallR X (.builtin id) r) (hg:Gl X x) (hm:X.mg x=none) (hv:bootBuiltins x=some (.builtin id)) (ha:PA X (e::es) t) (hn:x≠"__name__":=by decide) (hdb:(x == ("__debug__":Str))=false:=by decide)
  (he:starEach (e::es) X.env=(false,eval e X.env)::starEach es X.env:=by rfl) (hpl:(backTo pos (starEach es X.env)).any (·.1)=false:=by rfl):PE X (.Call (.Name x p) (e::es) [] pos) (tCB r t):=by
 intro pins s σ H Q I h
 refine wpAny_Call_Name_kw (ld_blt I hg hm hv ?_ hn hdb)
 exact PyProof.Rows.callWith_builtin1 (thn (ha pos pins s σ H _ I h) fun us s1 ⟨vs,H1,I1,r1,q1⟩=>hc pins s1 σ H1 vs us Q I1 r1 q1) he hpl
theorem pe_callTy (hc:CallR X (.type T) r) (hg:Gl X x) (hm:X.mg x=none) (hv:bootBuiltins x=some (.type T)) (ha:PA X (e::es) t) (hn:x≠"__name__":=by decide) (hdb:(x == ("__debug__":Str))=false:=by decide)
  (he:starEach (e::es) X.env=(false,eval e X.env)::starEach es X.env:=by rfl) (hpl:(backTo pos (starEach es X.env)).any (·.1)=false:=by rfl):PE X (.Call (.Name x p) (e::es) [] pos) (tCB r t):=by
 intro pins s σ H Q I h
 refine wpAny_Call_Name_kw (ld_blt I hg hm hv ?_ hn hdb)
 exact PyProof.Rows.callWith_type1 (thn (ha pos pins s σ H _ I h) fun us s1 ⟨vs,H1,I1,r1,q1⟩=>hc pins s1 σ H1 vs us Q I1 r1 q1) he hpl
end
end L2
namespace HT
open PySem PyProof.Rows
theorem eqAt_int (A:Around)(s:Shared)(a:Int)(t:Tok)(c:Int)(u:Tok):∃ e,SeqAt.EqAt A s (.int a t) (.int c u) e∧(e=true↔a=c) :=
 ⟨(a == c),SeqAt.EqAt.int_int a t c u,by simp⟩
theorem rcLt_int (A:Around)(s:Shared)(a:Int)(t:Tok)(c:Int)(u:Tok)(prog:Program)(w:World)(E:Value→Shared→Prop)(Q:Value→Shared→Prop)(h:Q (.bool (decide (a<c))) s) :
  wpAny (model prog w) A (richCompare .Lt (.int a t) (.int c u)) Q E s :=
 (PyProof.Rows.lt_int h:wpAny (model prog w) A (compareOp .Lt (.int a t) (.int c u)) Q E s)
section
open PySem.SeqAt
open PySem.AutoSeq1 (wpAny_loadPart')
open PySem.MeetsSeq PySem.MeetsSeq2 PySem.MeetsSeq3
end
section
variable {prog:Program}{w:World}{A:Around}{E:Value→Shared→Prop}{s:Shared}
theorem cat_tup {t b:Addr}{vs ws:List Value}{Q:Value→Shared→Prop}(ht:IsTup s.heap t vs.toArray)(hb:IsTup s.heap b ws.toArray)(hv:vs≠[])
  (h1:ws=[]→Q (.ref t) s) (h2:ws≠[]→Q (.ref s.heap.objs.size) { s with heap:=s.heap.push { cls:=.type "tuple",data:=.seq (vs++ws).toArray } })
  (hsz:vs.length+ws.length≤sizeLine):wpAny (model prog w) A (binaryOp .Add (.ref t) (.ref b)) Q E s:=by
 obtain⟨⟨cls,dd,data,sl⟩,ho,hc,n,hd⟩:=id ht
 obtain⟨⟨cls2,dd2,data2,sl2⟩,ho2,hc2,n2,hd2⟩:=id hb
 simp only at hc hd hc2 hd2
 subst hc hd hc2 hd2
 have e:vs.toArray++ws.toArray=(vs++ws).toArray:=by simp
 by_cases hw:ws=[]
 ·exact concat_meets ⟨_,ho,rfl⟩ ⟨_,ho2,rfl⟩ noFill_tuple_add seq_tuple_add PySem.F.slot_tuple_add PySem.F.entry_tuple_add (PySem.F.args_tuple_add_2 _ _)
   (tuple_addW1 t b vs.toArray ws.toArray n n2 dd dd2 sl sl2 (by simpa using hv) (by simp[hw])) ⟨ho,ho2,h1 hw⟩
 ·refine concat_meets ⟨_,ho,rfl⟩ ⟨_,ho2,rfl⟩ noFill_tuple_add seq_tuple_add PySem.F.slot_tuple_add PySem.F.entry_tuple_add (PySem.F.args_tuple_add_2 _ _)
   (tuple_addW2 t b vs.toArray ws.toArray n n2 dd dd2 sl sl2 (by simpa using hv) (by simpa using hw) (by rw[List.size_toArray,List.size_toArray]; exact hsz)) ⟨ho,ho2,?_⟩
  rw[e]
  exact h2 hw
def sIx (n d:Nat):Option Int→Nat
 |none=>d
 |some v=>if v<0 then (v+(n:Int)).toNat else min v.toNat n
theorem sIx_none (n d:Nat):sIx n d none=d:=rfl
theorem sIx_nat (n d k:Nat):sIx n d (some (k:Int))=min k n:=by
 show (if (k:Int)<0 then ((k:Int)+(n:Int)).toNat else min (k:Int).toNat n)=min k n
 rw[if_neg (by lia),Int.toNat_natCast]
theorem sIx_le (n d:Nat)(hd:d≤n)(o:Option Int):sIx n d o≤n:=by
 cases o with
 |none=>exact hd
 |some v =>
  show (if v<0 then (v+(n:Int)).toNat else min v.toNat n)≤n
  by_cases hv:v<0
  ·rw[if_pos hv]; lia
  ·rw[if_neg hv]; exact Nat.min_le_right _ _
theorem clip_eq (v:Int)(n d:Nat):(if v<0 then max (v+(n:Int)) 0 else min v (n:Int))=((sIx n d (some v):Nat):Int):=by
 show (if v<0 then max (v+(n:Int)) 0 else min v (n:Int))=(((if v<0 then (v+(n:Int)).toNat else min v.toNat n):Nat):Int)
 by_cases hv:v<0
 ·simp only[if_pos hv]; lia
 ·simp only[if_neg hv]; lia
theorem adjust_gen (lo hi:Option Int)(n:Nat):Builtin.Slice.sliceAdjust lo hi 1 (n:Int)=(((sIx n 0 lo:Nat):Int),((sIx n n hi:Nat):Int)):=by
 have h1:¬ ((1:Int)<0):=by lia
 unfold Builtin.Slice.sliceAdjust
 simp only[h1,if_false]
 refine Prod.ext ?_ ?_
 ·cases lo with
  |none=>rfl
  |some v=>exact clip_eq v n 0
 ·cases hi with
  |none=>rfl
  |some v=>exact clip_eq v n n
theorem places_gen (i j:Nat):Builtin.Slice.slicePlaces (i:Int) (j:Int) 1=j-i:=by
 unfold Builtin.Slice.slicePlaces
 have h1:(1:Int) > 0:=by lia
 simp only[h1,if_true,Int.ediv_one]
 split <;> lia
theorem slicePart_ {v:Value}{o:Option Int}{Q:Option Int→Shared→Prop}(p:IsPart v o)(h:Q o s):wpAny (model prog w) A (Builtin.Slice.slicePartIndex v) Q E s:=by
 cases p with
 |none=>exact slicePart_none h
 |int i t=>exact slicePart_int h
theorem sliceApplied_gen {sl:Addr}{vl vu:Value}{lo hi:Option Int}{n:Nat}{Q:Int×Int×Nat→Shared→Prop}(hs:s.heap.IsSliceOf sl vl vu .none)(pl:IsPart vl lo)(pu:IsPart vu hi)
  (h:Q (((sIx n 0 lo:Nat):Int),1,sIx n n hi-sIx n 0 lo) s):wpAny (model prog w) A (Builtin.Slice.sliceApplied (.ref sl) (pure (n:Int))) Q E s:=by
 obtain⟨os,hos,hcs,hds⟩:=id hs
 unfold Builtin.Slice.sliceApplied Builtin.Slice.sliceFields
 refine wpAny_bind (wpAny_bind (wpAny_field hos hds (x:=vl) rfl (wpAny_bind (wpAny_field hos hds (x:=vu) rfl (wpAny_bind (wpAny_field hos hds (x:=.none) rfl (wpAny_pure ?_)))))))
 refine wpAny_bind (slicePart_none ?_)
 show wpAny _ _ (if ((1:Int) == 0)=true then _ else _) _ _ s
 rw[if_neg (by decide)]
 refine wpAny_bind (slicePart_ pl (wpAny_bind (slicePart_ pu (wpAny_bind (wpAny_pure ?_)))))
 show wpAny _ _ (match Builtin.Slice.sliceAdjust lo hi 1 (n:Int) with | (lo,hi)=>pure (lo,(1:Int),Builtin.Slice.slicePlaces lo hi 1)) _ _ s
 rw[adjust_gen lo hi n]
 show wpAny _ _ (pure (((sIx n 0 lo:Nat):Int),(1:Int),Builtin.Slice.slicePlaces ((sIx n 0 lo:Nat):Int) ((sIx n n hi:Nat):Int) 1)) _ _ s
 rw[places_gen]
 exact wpAny_pure h
theorem pick_gen (xs:Array Value)(i k:Nat):((List.range k).filterMap fun (m:Nat)=>xs[((i:Int)+(m:Int)*1).toNat]?).toArray=((xs.toList.drop i).take k).toArray:=by
 have e:(fun (m:Nat)=>xs[((i:Int)+(m:Int)*1).toNat]?)=fun m=>xs[i+m]?:=by
  funext m
  have:((i:Int)+(m:Int)*1).toNat=i+m:=by lia
  rw[this]
 rw[e]
 have:=pick_run xs i k
 rw[List.filterMap_map] at this
 have e2:((fun x=>xs[x]?)∘fun x=>i+x)=fun m=>xs[i+m]?:=rfl
 rw[e2] at this
 rw[this]
theorem getItem_tuple_cut {t sl:Addr}{items:Array Value}{vl vu:Value}{lo hi:Option Int}{Q:Value→Shared→Prop}(ht:IsTup s.heap t items)(hs:s.heap.IsSliceOf sl vl vu .none)(pl:IsPart vl lo)(pu:IsPart vu hi)
  (hw:¬ (sIx items.size 0 lo=0∧sIx items.size items.size hi=items.size))
  (h:Q (.ref s.heap.objs.size) { s with heap:=s.heap.push { cls:=.type "tuple",data:=.seq ((items.toList.drop (sIx items.size 0 lo)).take (sIx items.size items.size hi-sIx items.size 0 lo)).toArray } })
  (hsz:items.size≤sizeLine):wpAny (model prog w) A (getItem (.ref t) (.ref sl)) Q E s:=by
 have htake:sizeOk (.seq ((items.toList.drop (sIx items.size 0 lo)).take (sIx items.size items.size hi-sIx items.size 0 lo)).toArray):=by
  show ((items.toList.drop (sIx items.size 0 lo)).take (sIx items.size items.size hi-sIx items.size 0 lo)).toArray.size≤sizeLine
  rw[List.size_toArray,List.length_take,List.length_drop,Array.length_toList]
  lia
 have hj:sIx items.size items.size hi≤items.size:=sIx_le _ _ (Nat.le_refl _) hi
 obtain⟨os,hos,hcs,hds⟩:=id hs
 have hTs:s.TypeIs (.ref sl) "slice":=⟨os,hos,hcs⟩
 unfold getItem
 try with_reducible refine wpAny_holding ?_
 first | refine wpAny_bind (wpAny_pure ?_) | skip
 refine wpAny_bind (wpAny_sequenceKey ht.typeIs (by decide) ?_)
 refine wpAny_bind (wpAny_callSpecial?_slot (name:=Str.ofString "__getitem__") ht.typeIs PyProof.Rows.slot_tuple_getitem
  (wpAny_call_entry PyProof.Rows.slot_tuple_getitem ht.typeIs entry_tuple_getitem ?_ (args_tuple_getitem _ _)))
 show wpAny _ _ (Builtin.Tuple.tupleItemsOf (.ref t)>>=_) _ _ s
 refine wpAny_bind (tupleItemsOf_ ht ?_)
 refine wpAny_bind (wpAny_typeOf hTs ?_)
 rw[if_pos (by decide)]
 refine wpAny_bind (sliceApplied_gen hs pl pu ?_)
 have hno:¬ ((((sIx items.size 0 lo:Nat):Int) == 0&&(1:Int) == 1&&(sIx items.size items.size hi-sIx items.size 0 lo) == items.size)=true):=by
  intro q
  rw[Bool.and_eq_true,Bool.and_eq_true] at q
  have q1:((sIx items.size 0 lo:Nat):Int)=0:=eq_of_beq q.1.1
  have q2:sIx items.size items.size hi-sIx items.size 0 lo=items.size:=eq_of_beq q.2
  exact hw ⟨by lia,by lia⟩
 show wpAny _ _ (if (((sIx items.size 0 lo:Nat):Int) == 0&&(1:Int) == 1&&(sIx items.size items.size hi-sIx items.size 0 lo) == items.size)=true then _ else _) _ _ s
 rw[if_neg hno,pick_gen]
 first
  |exact wpAny_bind (m:=Builtin.Tuple.tupleExact _) (wpAny_newObj_type (wpAny_pure ⟨_,rfl,wpAny_pure h⟩) htake)
  |exact wpAny_bind (m:=Builtin.Tuple.tupleExact _) (wpAny_newObj_type (wpAny_bind (wpAny_pure (wpAny_pure ⟨_,rfl,wpAny_pure h⟩))) htake)
  |exact wpAny_bind (wpAny_bind (m:=Builtin.Tuple.tupleExact _) (wpAny_newObj_type (wpAny_pure (wpAny_pure ⟨_,rfl,wpAny_pure h⟩)) htake))
  |exact wpAny_bind (wpAny_bind (m:=Builtin.Tuple.tupleExact _) (wpAny_newObj_type (wpAny_pure ⟨_,rfl,wpAny_pure h⟩) htake))
end
end HT
namespace L2
open PySem PySem.Spec PyProof.Rows
abbrev TO:=St→Hp→(Option Int→Hp→Prop)→Prop
def PO (X:Cx)(e:Option Expr)(t:TO):Prop :=
 ∀ (pins:List (Addr×Obj)) (s:Shared) (σ:St) (H:Hp) (Q:Option Int→Hp→Prop),Inv X pins σ H s→t σ H Q →
  wpAny (model X.prog X.w) X.A (evalPart e X.env) (fun u s'=>∃ o H',Inv X pins σ H' s'∧IsPart u o∧Q o H') X.xe s
def tNoPart:TO:=fun _ H Q=>Q none H
def tPart (t:TE):TO:=fun σ H Q=>t σ H fun x H1=>∃ i,x=.int i∧Q (some i) H1
section
variable {X:Cx}{e:Expr}{te:TE}{lo hi:Option Expr}{tl th:TO}{pos p2:Pos}
theorem po_none:PO X none tNoPart:=by
 intro pins s σ H Q I h
 rw[evalPart_none]
 exact wpAny_pure ⟨none,H,I,.none,h⟩
theorem po_some (h:PE X e te):PO X (some e) (tPart te):=by
 intro pins s σ H Q I hw
 rw[evalPart_some]
 refine thn (h pins s σ H _ I hw) fun u s1 ⟨x,H1,I1,r1,q1⟩=>?_
 obtain⟨i,rfl,q⟩:=q1
 obtain⟨t,rfl⟩:=r1
 exact⟨some i,H1,I1,.int i t,q⟩
def SlR (X:Cx)(r:V→Option Int→Option Int→Hp→VK→Prop):Prop :=
 ∀ (pins:List (Addr×Obj)) (s:Shared) (σ:St) (H:Hp) (x:V) (v vl vu:Value) (lo hi:Option Int) (sl:Addr) (Q:VK),Inv X pins σ H s→RelV x v→s.heap.IsSliceOf sl vl vu .none→IsPart vl lo→IsPart vu hi→r x lo hi H Q →
  ∃ T id,typeLookup (.type T) "__getitem__"=pure (some (.builtin id))∧s.TypeIs v T∧wpAny (model X.prog X.w) X.A (getItem v (.ref sl)) (EP X pins σ Q) X.xe s
theorem SlR.or {r r':V→Option Int→Option Int→Hp→VK→Prop}(h:SlR X r)(h':SlR X r'):SlR X (fun x lo hi H Q=>r x lo hi H Q∨r' x lo hi H Q):=by
 intro pins s σ H x v vl vu lo hi sl Q I rx hs pl pu q
 rcases q with q | q
 ·exact h pins s σ H x v vl vu lo hi sl Q I rx hs pl pu q
 ·exact h' pins s σ H x v vl vu lo hi sl Q I rx hs pl pu q
def tSl (r:V→Option Int→Option Int→Hp→VK→Prop)(te:TE)(tl th:TO):TE:=fun σ H Q=>te σ H fun x H1=>tl σ H1 fun l H2=>th σ H2 fun u H3=>r x l u H3 Q
theorem pe_slice {r:V→Option Int→Option Int→Hp→VK→Prop}(hr:SlR X r)(he:PE X e te)(hl:PO X lo tl)(hu:PO X hi th):PE X (.Subscript e (.Slice lo hi none p2) pos) (tSl r te tl th):=by
 intro pins s σ H Q I h
 refine Subscript_ (thn (he pins s σ H _ I h) fun v s1 ⟨x,H1,I1,r1,q1⟩=>?_)
 refine wpAny_Slice (thn (hl pins s1 σ H1 _ I1 q1) fun vl s2 ⟨l,H2,I2,pl,q2⟩=>thn (hu pins s2 σ H2 _ I2 q2) fun vu s3 ⟨u,H3,I3,pu,q3⟩=>?_)
 rw[evalPart_none]
 refine wpAny_pure ?_
 have I4:Inv X pins σ H3 { s3 with heap:=s3.heap.push { cls:=.type "slice",data:=.fields #[vl,vu,.none] } }:=I3.kept (t':=s3.toks) fun b ob q=>Heap.get?_push_of_some _ q
 obtain⟨T,id,hT,ht,hg⟩:=hr pins { s3 with heap:=s3.heap.push { cls:=.type "slice",data:=.fields #[vl,vu,.none] } } σ H3 x v vl vu l u s3.heap.objs.size Q I4 r1 (Heap.IsSliceOf.new ..) pl pu q3
 show wpAny (model X.prog X.w) X.A (subscriptTail e (.Slice lo hi none p2) v (.ref s3.heap.objs.size)) (EP X pins σ Q) X.xe { s3 with heap:=s3.heap.push { cls:=.type "slice",data:=.fields #[vl,vu,.none] } }
 exact tail_any (ops:=[.ref s3.heap.objs.size,v]) ht hT hg (by with_unfolding_all rfl)
def cutV (xs:List V)(lo hi:Option Int):List V:=(xs.drop (HT.sIx xs.length 0 lo)).take (HT.sIx xs.length xs.length hi-HT.sIx xs.length 0 lo)
theorem cutV_length (xs:List V)(lo hi:Option Int):(cutV xs lo hi).length≤xs.length:=by
 unfold cutV
 rw[List.length_take,List.length_drop]
 lia
def rSlT (K:PySem.W.Frag):V→Option Int→Option Int→Hp→VK→Prop:=fun x lo hi H Q=>∃ a xs,x=.ref a∧SqT K H a xs ∧
 ¬ (HT.sIx xs.length 0 lo=0∧HT.sIx xs.length xs.length hi=xs.length)∧∀ p,H p=none→Q (.ref p) (upd H p (.tup (cutV xs lo hi)))
theorem sl_tup:SlR X (rSlT X.K):=by
 intro pins s σ H x v vl vu lo hi sl Q I rx hs pl pu h
 obtain⟨a,xs,rfl,hx,hw,q⟩:=h
 cases rx
 obtain⟨its,r,ht,hz⟩:=I.tuple hx
 have hlen:its.toArray.size=xs.length:=by rw[List.size_toArray]; exact r.length.symm
 refine⟨"tuple",_,PyProof.Rows.slot_tuple_getitem.lookup,ht.typeIs,?_⟩
 refine HT.getItem_tuple_cut ht hs pl pu (by rw[hlen]; exact hw) ?_ (by rw[hlen]; exact hz)
 rw[hlen]
 refine⟨.ref s.heap.objs.size,_,I.laid (t':=s.toks) (o:=.tup (cutV xs lo hi)) (fun b ob q=>Heap.get?_push_of_some _ q) (Nat.le_refl _) ?_,rfl,q _ (I.hok.fresh (Nat.le_refl _))⟩
 exact⟨Nat.le_trans (cutV_length xs lo hi) hz,_,(r.drop (HT.sIx xs.length 0 lo)).take (HT.sIx xs.length xs.length hi-HT.sIx xs.length 0 lo),IsTup.new _ _⟩
def rCatT (K:PySem.W.Frag):R2:=fun x y H Q=>∃ a b xs ys,x=.ref a∧y=.ref b∧SqT K H a xs∧SqT K H b ys∧xs≠[]∧xs.length+ys.length≤sizeLine ∧
 (ys=[]→Q (.ref a) H)∧(ys≠[]→∀ p,H p=none→Q (.ref p) (upd H p (.tup (xs++ys))))
theorem Vals.nil_iff {xs:List V}{us:List Value}(r:Vals xs us):us=[]↔xs=[]:=by
 cases r with
 |nil=>simp
 |cons _ _=>simp
theorem op_catT:OpR X (binaryOp .Add) (rCatT X.K):=by
 intro pins s σ H x y v u Q I rx ry h
 obtain⟨a,b,xs,ys,rfl,rfl,ha,hb,hx,hz,q1,q2⟩:=h
 cases rx
 cases ry
 obtain⟨its,r1,p1,_⟩:=I.tuple ha
 obtain⟨its2,r2,p2,_⟩:=I.tuple hb
 refine HT.cat_tup p1 p2 (fun z=>hx (r1.nil_iff.mp z)) (fun z=>⟨.ref a,H,I,rfl,q1 (r2.nil_iff.mp z)⟩) (fun z=>?_) (by rw[← r1.length,← r2.length]; exact hz)
 refine⟨.ref s.heap.objs.size,_,I.laid (t':=s.toks) (o:=.tup (xs++ys)) (fun b ob q=>Heap.get?_push_of_some _ q) (Nat.le_refl _) ?_,rfl,q2 (fun w=>z (r2.nil_iff.mpr w)) _ (I.hok.fresh (Nat.le_refl _))⟩
 exact⟨by rw[List.length_append]; exact hz,_,r1.append r2,IsTup.new _ _⟩
end
def ixN (n:Nat)(i:Int):Option Nat:=if 0≤i then (if i<n then some i.toNat else none) else if -(n:Int)≤i then some (i+n).toNat else none
def atI {α:Type}(xs:List α)(i:Int):Option α:=(ixN xs.length i).bind fun j=>xs[j]?
theorem ixN_seq {n:Nat}{i:Int}{j:Nat}(h:ixN n i=some j):seqIndex? i n=some j∧j<n∧-(n:Int)≤i∧i<n:=by
 unfold ixN at h
 by_cases h0:0≤i
 ·rw[if_pos h0] at h
  by_cases h1:i<n
  ·rw[if_pos h1] at h
   have e:i.toNat=j:=Option.some.inj h
   exact⟨by rw[seqIndex_of h0 h1,e],by lia,by lia,h1⟩
  ·rw[if_neg h1] at h; cases h
 ·rw[if_neg h0] at h
  by_cases h1:-(n:Int)≤i
  ·rw[if_pos h1] at h
   have e:(i+n).toNat=j:=Option.some.inj h
   exact⟨by rw[seqIndex_neg (by lia) h1,e],by lia,h1,by lia⟩
  ·rw[if_neg h1] at h; cases h
theorem atI_get {α:Type}{xs:List α}{i:Int}{v:α}(h:atI xs i=some v):∃ j,seqIndex? i xs.length=some j∧xs[j]?=some v∧j<xs.length∧-(xs.length:Int)≤i∧i<xs.length:=by
 unfold atI at h
 cases e:ixN xs.length i with
 |none=>rw[e] at h; cases h
 |some j =>
  rw[e] at h
  obtain⟨h1,h2,h3,h4⟩:=ixN_seq e
  exact⟨j,h1,h,h2,h3,h4⟩
def PlainIx (b:Expr):Prop:=∀ o i,subscripted b false o i=operate [o,i] (getItem o i)
def IxR (X:Cx)(r:R2):Prop :=
 ∀ (value slice:Expr) (pins:List (Addr×Obj)) (s:Shared) (σ:St) (H:Hp) (x y:V) (v u:Value) (Q:VK),Inv X pins σ H s→RelV x v→RelV y u→r x y H Q →
  subscripted slice false v u=operate [v,u] (getItem v u)→wpAny (model X.prog X.w) X.A (subscriptTail value slice v u) (EP X pins σ Q) X.xe s
def MtR (X:Cx)(id:String)(r:V→List V→Hp→VK→Prop):Prop :=
 ∀ (pins:List (Addr×Obj)) (s:Shared) (σ:St) (H:Hp) (x:V) (xs:List V) (v:Value) (us:List Value) (Q:VK),Inv X pins σ H s→RelV x v→Vals xs us→r x xs H Q →
  wpAny (model X.prog X.w) X.A (call (.builtin id) (v::us)) (EP X pins σ Q) X.xe s
section
variable {X:Cx}{a b:Expr}{ta tb:TE}{pos:Pos}
theorem IxR.or {r r':R2}(h:IxR X r)(h':IxR X r'):IxR X (fun x y H Q=>r x y H Q∨r' x y H Q):=by
 intro value slice pins s σ H x y v u Q I rx ry q hs
 rcases q with q | q
 ·exact h value slice pins s σ H x y v u Q I rx ry q hs
 ·exact h' value slice pins s σ H x y v u Q I rx ry q hs
theorem pe_ix {r:R2}(hr:IxR X r)(ha:PE X a ta)(hb:PE X b tb)(hs:PlainIx b):PE X (.Subscript a b pos) (tOp r ta tb):=by
 intro pins s σ H Q I h
 exact Subscript_ (binT ha hb I h fun v u s2 x y H2 I2 rx ry q=>hr a b pins s2 σ H2 x y v u Q I2 rx ry q (hs _ _))
def rIxL (K:PySem.W.Frag):R2:=fun x y H Q=>∃ p xs i v,x=.ref p∧y=.int i∧SqL K H p xs∧atI xs i=some v∧Q v H
def rIxT (K:PySem.W.Frag):R2:=fun x y H Q=>∃ p xs i v,x=.ref p∧y=.int i∧SqT K H p xs∧atI xs i=some v∧Q v H
def rIxS:R2:=fun x y H Q=>∃ z i c,x=.str z∧y=.int i∧z.length≤sizeLine∧atI z.cps.toList i=some c∧Q (.str ⟨#[c]⟩) H
theorem ix_list:IxR X (rIxL X.K):=by
 intro value slice pins s σ H x y v u Q I rx ry h hs
 obtain⟨p,xs,i,z,rfl,rfl,hq,he,q⟩:=h
 cases rx
 obtain⟨t,rfl⟩:=ry
 obtain⟨its,r,pl,hz⟩:=I.list hq
 obtain⟨j,h1,h2,h3,h4,h5⟩:=atI_get he
 obtain⟨w,ew,rw'⟩:=r.get h2
 have hl:=r.length
 have hn:=line63
 have fin:EP X pins σ Q w s:=⟨z,H,I,rw',q⟩
 by_cases h0:0≤i
 ·have hj:i.toNat=j:=by
   rw[seqIndex_of h0 h5] at h1
   exact Option.some.inj h1
  exact item_listR pl.isList h0 (by lia) (by rw[hj]; simpa using ew) fin hs
 ·have hj:(i+(its.toArray.size:Int)).toNat=j:=by
   rw[seqIndex_neg (by lia) h4] at h1
   rw[List.size_toArray,← hl]
   exact Option.some.inj h1
  exact subscriptTail_builtinR (x:=w) pl.isList.typeIs slot_list_getitem.lookup
   (wpAny_getItem_list_neg (Q:=fun r s'=>r=w∧EP X pins σ Q r s') pl.isList (by lia) (by rw[List.size_toArray] <;> lia) (by lia) (by rw[hj]; simpa using ew) ⟨rfl,fin⟩) hs
theorem ix_tup:IxR X (rIxT X.K):=by
 intro value slice pins s σ H x y v u Q I rx ry h hs
 obtain⟨p,xs,i,z,rfl,rfl,hq,he,q⟩:=h
 cases rx
 obtain⟨t,rfl⟩:=ry
 obtain⟨its,r,pl,hz⟩:=I.tuple hq
 obtain⟨j,h1,h2,h3,h4,h5⟩:=atI_get he
 obtain⟨w,ew,rw'⟩:=r.get h2
 have hl:=r.length
 have hn:=line63
 have fin:EP X pins σ Q w s:=⟨z,H,I,rw',q⟩
 exact subscriptTail_builtinR (x:=w) pl.typeIs slot_tuple_getitem.lookup
  (getItem_tuple (j:=j) (Q:=fun r s'=>r=w∧EP X pins σ Q r s') pl (by lia) (by lia) (by rw[List.size_toArray,← hl]; exact h1) (by simpa using ew) ⟨rfl,fin⟩) hs
theorem ix_str:IxR X rIxS:=by
 intro value slice pins s σ H x y v u Q I rx ry h hs
 obtain⟨z,i,c,rfl,rfl,hz,he,q⟩:=h
 obtain⟨t,rfl⟩:=rx
 obtain⟨t',rfl⟩:=ry
 obtain⟨j,h1,h2,h3,h4,h5⟩:=atI_get he
 have hl:z.cps.toList.length=z.length:=by simp[Str.length]
 rw[hl] at h1 h4 h5
 have hn:=line63
 exact tail_any (typeIs_str s z t) slot_str_getitem.lookup (getItem_str (c:=c) (by
  have e1:decide (i < -(2 ^ 63:Int))=false:=decide_eq_false (by lia)
  have e2:decide (i ≥ 2 ^ 63)=false:=decide_eq_false (by lia)
  rw[e1,e2,Bool.or_false]) (by rw[h1]; simpa using h2) ⟨.str ⟨#[c]⟩,H,I.tok _,⟨_,rfl⟩,q⟩) hs
def rIx (K:PySem.W.Frag):R2:=fun x y H Q=>rIxL K x y H Q∨rIxT K x y H Q∨rIxS x y H Q
theorem ix_seq:IxR X (rIx X.K):=ix_list.or (ix_tup.or ix_str)
theorem Inv.lst {pins:List (Addr×Obj)}{σ:St}{H:Hp}{s:Shared}{p:Addr}{xs:List V}(I:Inv X pins σ H s)(h:H p=some (.lst xs)) :
  ∃ (its:List Value) (n:Nat),Vals xs its∧s.heap.get? p=some { cls:=.type "list",data:=.seq its.toArray n }∧xs.length≤sizeLine:=by
 obtain⟨z,its,n,r,e⟩:=I.hok p _ h
 exact⟨its,n,r,e,z⟩
theorem slice_bounds (lo hi:Option Int)(n:Nat):(sliceBounds lo hi none n).1=((HT.sIx n 0 lo:Nat):Int)∧(sliceBounds lo hi none n).2.1=((HT.sIx n n hi:Nat):Int)∧(sliceBounds lo hi none n).2.2=1:=by
 refine⟨?_,?_,rfl⟩
 ·cases lo with
  |none=>simp[sliceBounds,HT.sIx]
  |some i =>
   simp only[sliceBounds,HT.sIx,Option.getD_none,show (1:Int) > 0 by decide,if_true]
   by_cases h:i<0
   ·simp only[h,if_true] <;> lia
   ·simp only[h,if_false] <;> lia
 ·cases hi with
  |none=>simp[sliceBounds,HT.sIx]
  |some i =>
   simp only[sliceBounds,HT.sIx,Option.getD_none,show (1:Int) > 0 by decide,if_true]
   by_cases h:i<0
   ·simp only[h,if_true] <;> lia
   ·simp only[h,if_false] <;> lia
theorem slicePick_cut (its:List Value)(lo hi:Option Int):slicePick its.toArray lo hi none=((its.drop (HT.sIx its.length 0 lo)).take (HT.sIx its.length its.length hi-HT.sIx its.length 0 lo)).toArray:=by
 obtain⟨h1,h2,h3⟩:=slice_bounds lo hi its.toArray.size
 unfold slicePick
 rw[h1,h2,h3]
 simp only[sliceRange_one,pick_run,List.size_toArray] <;> rfl
def rSlL (K:PySem.W.Frag):V→Option Int→Option Int→Hp→VK→Prop:=fun x lo hi H Q=>∃ a xs,x=.ref a∧SqL K H a xs∧∀ p,H p=none→Q (.ref p) (upd H p (.lst (cutV xs lo hi)))
theorem sl_list:SlR X (rSlL X.K):=by
 intro pins s σ H x v vl vu lo hi sl Q I rx hs pl pu h
 obtain⟨a,xs,rfl,hx,q⟩:=h
 cases rx
 obtain⟨its,r,ht,hz⟩:=I.list hx
 have hlen:=r.length
 refine⟨"list",_,slot_list_getitem.lookup,ht.isList.typeIs,?_⟩
 refine wpAny_getItem_list_slice ht.isList hs pl pu .none (by simp) ?_ (by rw[List.size_toArray] <;> lia)
 rw[slicePick_cut,← hlen]
 refine⟨.ref s.heap.objs.size,_,I.laid (t':=s.toks) (o:=.lst (cutV xs lo hi)) (fun b ob q=>Heap.get?_push_of_some _ q) (Nat.le_refl _) ?_,rfl,q _ (I.hok.fresh (Nat.le_refl _))⟩
 exact⟨Nat.le_trans (cutV_length xs lo hi) hz,_,0,(r.drop (HT.sIx xs.length 0 lo)).take (HT.sIx xs.length xs.length hi-HT.sIx xs.length 0 lo),Heap.get?_push_size _ rfl⟩
theorem op_notIn_str:OpR X (compareOp .NotIn) (fun x y H Q=>∃ i j,x=.str i∧y=.str j∧Q (.bl (!(!(Builtin.Str.occurrences j i 0 j.length 1).isEmpty))) H):=by
 intro pins s σ H x y v u Q I rx ry h
 obtain⟨i,j,rfl,rfl,q⟩:=h
 obtain⟨t,rfl⟩:=rx
 obtain⟨t',rfl⟩:=ry
 exact notIn_str ⟨.bl _,H,I,rfl,q⟩
theorem call_len_seq:CallR X (.builtin "len") (fun xs H Q=>∃ p ys,xs=[.ref p]∧(SqL X.K H p ys∨SqT X.K H p ys)∧Q (.int ys.length) H):=by
 intro pins s σ H xs us Q I r h
 obtain⟨p,ys,rfl,hq,q⟩:=h
 obtain⟨u,rfl,rx⟩:=vals1 r
 cases rx
 have hn:=line63
 rcases hq with hq | hq
 ·obtain⟨its,r',pl,hz⟩:=I.list hq
  have hlen:=r'.length
  exact Calls.call_len_list pl.isList (by simp only[List.size_toArray] <;> lia) ⟨.int ys.length,H,I.tok _,⟨s.toks+1,by rw[List.size_toArray,hlen]⟩,q⟩
 ·obtain⟨its,r',pl,hz⟩:=I.tuple hq
  have hlen:=r'.length
  exact len_tuple pl (by simp only[List.size_toArray] <;> lia) ⟨.int ys.length,H,I.tok _,⟨s.toks+1,by rw[List.size_toArray,hlen]⟩,q⟩
theorem call_len_str:CallR X (.builtin "len") (fun xs H Q=>∃ z,xs=[.str z]∧z.length≤sizeLine∧Q (.int z.length) H):=by
 intro pins s σ H xs us Q I r h
 obtain⟨z,rfl,hz,q⟩:=h
 obtain⟨u,rfl,t,rfl⟩:=vals1 r
 have hn:=line63
 exact len_str (by lia) ⟨.int z.length,H,I.tok _,⟨_,rfl⟩,q⟩
theorem CallR.or {f:Value}{r r':List V→Hp→VK→Prop}(h:CallR X f r)(h':CallR X f r'):CallR X f (fun xs H Q=>r xs H Q∨r' xs H Q):=by
 intro pins s σ H xs us Q I rs q
 rcases q with q | q
 ·exact h pins s σ H xs us Q I rs q
 ·exact h' pins s σ H xs us Q I rs q
theorem call_tuple_of:CallR X (.type "tuple") (fun xs H Q=>∃ p ys,xs=[.ref p]∧((SqL X.K H p ys∧∀ l,H l=none→Q (.ref l) (upd H l (.tup ys)))∨(SqT X.K H p ys∧Q (.ref p) H))):=by
 intro pins s σ H xs us Q I r h
 obtain⟨p,ys,rfl,h⟩:=h
 obtain⟨u,rfl,rx⟩:=vals1 r
 cases rx
 rcases h with ⟨hq,q⟩ | ⟨hq,q⟩
 ·obtain⟨its,r',pl,hz⟩:=I.list hq
  have hlen:=r'.length
  refine call_tuple_list pl.isList (fun h' kp=>?_) (by simp only[List.size_toArray] <;> lia)
  have I1:Inv X pins σ H { s with heap:=h' }:=I.kept (t':=s.toks) kp
  have I2:Inv X pins σ (upd H h'.objs.size (.tup ys)) { s with heap:=h'.push { cls:=.type "tuple",data:=.seq its.toArray } } :=
   I1.laid (t':=s.toks) (fun b o e=>Heap.get?_push_of_some _ e) (Nat.le_refl _) (show ObjOk X.prog X.w _ _ _ (.tup ys) from ⟨hz,its,r',IsTup.new _ _⟩)
  exact⟨.ref h'.objs.size,_,I2,rfl,q _ (I1.hok.fresh (Nat.le_refl _))⟩
 ·obtain⟨its,r',pl,hz⟩:=I.tuple hq
  exact call_tuple_same pl ⟨.ref p,H,I,rfl,q⟩
def tyV (K:PySem.W.Frag)(T:String)(x:V)(H:Hp):Prop:=match x with
 |.str _=>T="str"
 |.int _=>T="int"
 |.ref p=>(T="list"∧∃ xs,SqL K H p xs)∨(T="tuple"∧∃ o,K.lookup p=some o∧o.cls=.type "tuple"∧o.dict=none) ∨
   (T="dict"∧((∃ kvs,H p=some (.dK kvs))∨∃ kvs,H p=some (.dT kvs)))∨(T="set"∧∃ S n,H p=some (.set S n))
 |_=>False
theorem tyV_is {pins:List (Addr×Obj)}{σ:St}{H:Hp}{s:Shared}{T:String}{x:V}{v:Value}(I:Inv X pins σ H s)(r:RelV x v)(ty:tyV X.K T x H) :
  s.TypeIs v T∧∀ a,v=.ref a→∃ ob,s.heap.get? a=some ob∧ob.dict=none:=by
 cases x with
 |str z =>
  obtain⟨t,rfl⟩:=r
  cases (show T="str" from ty)
  exact⟨typeIs_str s z t,fun _ e=>nomatch e⟩
 |int i =>
  obtain⟨t,rfl⟩:=r
  cases (show T="int" from ty)
  exact⟨typeIs_int s i t,fun _ e=>nomatch e⟩
 |ref p =>
  cases r
  rcases ty with ⟨rfl,xs,hq⟩ | ⟨rfl,o,hk,hc,hd⟩ | ⟨rfl,hk⟩ | ⟨rfl,S,n,hk⟩
  ·obtain⟨its,_,pl,_⟩:=I.list hq
   refine⟨pl.isList.typeIs,fun a e=>?_⟩
   cases e
   obtain⟨o,n,e,c,hd,_⟩:=pl
   exact⟨o,e,hd⟩
  ·refine⟨⟨o,I.kIn p o hk,hc⟩,fun a e=>?_⟩
   cases e
   exact⟨o,I.kIn _ o hk,hd⟩
  ·have z:∃ o,s.heap.get? p=some o∧o.ExactDict:=by
    rcases hk with ⟨kvs,hk⟩ | ⟨kvs,hk⟩
    ·obtain⟨_,_,_,_,o,_,_,e,ex,_⟩:=I.hok p _ hk
     exact⟨o,e,ex⟩
    ·obtain⟨_,_,_,_,o,_,_,e,ex,_⟩:=I.hok p _ hk
     exact⟨o,e,ex⟩
   obtain⟨o,e,ex⟩:=z
   refine⟨⟨o,e,ex.1⟩,fun a e2=>?_⟩
   cases e2
   exact⟨o,e,ex.2.1⟩
  ·obtain⟨o,_,_,_,e,ex,_⟩:=I.hok p _ hk
   refine⟨⟨o,e,ex.1⟩,fun a e2=>?_⟩
   cases e2
   exact⟨o,e,ex.2.1⟩
 |_=>exact False.elim ty
def tBM (K:PySem.W.Frag)(T:String)(r:V→List V→Hp→VK→Prop)(to:TE)(t:TA):TE:=fun σ H Q=>to σ H fun x H1=>tyV K T x H1∧t σ H1 fun xs H2=>r x xs H2 Q
variable {o e:Expr}{es:List Expr}{to:TE}{t:TA}{name:Str}{apos cpos:Pos}{T id:String}{r:V→List V→Hp→VK→Prop}
theorem pe_bm (pa:PlainAttrs T) (slot:Slot T name id) (hty:typeOf (.builtin id)=pure (.type "method_descriptor")) (hm:MtR X id r) (ho:PE X o to) (ha:PA X (e::es) t)
  (hbase:attributeBase o name X.env (eval o X.env)=eval o X.env:=by rfl)
  (hfew:((backTo cpos (starEach (e::es) X.env)).all (fun x=>!x.1)&&(backToKw cpos (keywordEach [] X.env)).all (fun x=>x.1.isSome)
  &&decide ((e::es).length+([]:List Keyword).length+(if ([]:List Keyword).isEmpty then 0 else 1)<30))=true:=by rfl)
  (hline:(apos.endLine == cpos.line)=true:=by rfl) (hs:starEach (e::es) X.env=(false,eval e X.env)::starEach es X.env:=by rfl) (hplain:(backTo cpos (starEach es X.env)).any (·.1)=false:=by rfl) :
  PE X (.Call (.Attribute o name apos) (e::es) [] cpos) (tBM X.K T r to t):=by
 intro pins s σ H Q I h
 refine wpAny_Call_method_late hbase hfew hline rfl (thn (ho pins s σ H _ I h) fun v s1 ⟨x,H1,I1,r1,ty,q1⟩=>?_)
 obtain⟨h1,h2⟩:=tyV_is I1 r1 ty
 refine⟨T,id,pa,slot,hty,h1,h2,?_⟩
 have hA:=ha cpos pins s1 σ H1 _ I1 q1
 rw[hs] at hA ⊢
 refine Calls.callWith_builtin (by show (false||(backTo cpos (starEach es X.env)).any (·.1))=false; rw[hplain] <;> rfl) (Calls.evalArgs_plain ?_)
 exact thn hA fun us s2 ⟨vs,H2,I2,r2,q2⟩=>hm pins s2 σ H2 x vs v us Q I2 r1 r2 q2
end
def MtM (X:Cx)(id:String)(r:V→List V→Hp→VK→Prop):Prop :=
 ∀ (pins:List (Addr×Obj)) (s:Shared) (σ:St) (H:Hp) (x:V) (xs:List V) (v:Value) (us:List Value) (Q:VK),Inv X pins σ H s→RelV x v→Vals xs us→r x xs H Q →
  wpAny (model X.prog X.w) X.A (call (.builtin id) (v::us)) (EP X pins σ Q) X.xe s
theorem Vals.one:∀ {x:V} {us:List Value},Vals [x] us→∃ u,us=[u]∧RelV x u
 |_,_,.cons r .nil=>⟨_,rfl,r⟩
theorem Vals.two:∀ {x y:V} {us:List Value},Vals [x,y] us→∃ u v,us=[u,v]∧RelV x u∧RelV y v
 |_,_,_,.cons r (.cons q .nil)=>⟨_,_,rfl,r,q⟩
theorem Vals.rep {xs:List V}{us:List Value}(h:Vals xs us):∀ k:Nat,Vals (List.replicate k xs).flatten (List.replicate k us).flatten
 |0=>.nil
 |k+1=>by
  rw[List.replicate_succ,List.replicate_succ,List.flatten_cons,List.flatten_cons]
  exact Vals.append h (Vals.rep h k)
theorem foldl_rep (its:List Value):∀ (k:Nat) (acc:List Value),
  List.foldl (fun x1 x2=>x1++x2) acc.toArray (List.replicate k its.toArray)=(acc++(List.replicate k its).flatten).toArray
 |0,acc=>by simp
 |k+1,acc=>by
  have e:acc.toArray++its.toArray=(acc++its).toArray:=by simp
  have e2:(acc++its)++(List.replicate k its).flatten=acc++(List.replicate (k+1) its).flatten:=by
   rw[List.replicate_succ,List.flatten_cons,List.append_assoc]
  rw[← e2,← foldl_rep its k (acc++its),← e,List.replicate_succ,List.foldl_cons]
section
variable {X:Cx}{pins:List (Addr×Obj)}{σ:St}{H:Hp}{s:Shared}{l b:Addr}{xs ys zs:List V}
theorem Inv.lset {its its':List Value}{n:Nat}{f:Array Value→Array Value}{t':Nat}(I:Inv X pins σ H s)(hH:H l=some (.lst xs))
  (e:s.heap.get? l=some { cls:=.type "list",data:=.seq its.toArray n }) (hf:f its.toArray=its'.toArray) (hv:Vals ys its') (hz:ys.length≤sizeLine) :
  Inv X pins σ (upd H l (.lst ys)) { s with heap:=s.heap.update l (Obj.mapSeq f),toks:=t' }:=by
 have q:=PySem.IsL.update e f
 rw[hf] at q
 refine I.write (x:=l) (e:=l) (by rw[hH]; exact trivial) (.inl rfl) (fun b' u hb hu=>(Heap.get?_update_other s.heap (Obj.mapSeq f) (Ne.symm hb)).trans hu) ⟨_,q⟩ ?_
 exact⟨hz,its',_,hv,q⟩
theorem Inv.lnew {its:List Value}{t':Nat}(I:Inv X pins σ H s)(hv:Vals ys its)(hz:ys.length≤sizeLine) :
  Inv X pins σ (upd H s.heap.objs.size (.lst ys)) { s with heap:=s.heap.push { cls:=.type "list",data:=.seq its.toArray },toks:=t' } :=
 I.laid (fun _ _ q=>Heap.get?_push_of_some _ q) (Nat.le_refl _) ⟨hz,its,0,hv,Heap.get?_push_size _ rfl⟩
theorem Inv.fresh (I:Inv X pins σ H s):H s.heap.objs.size=none:=I.hok.fresh (Nat.le_refl _)
theorem Inv.lstM (I:Inv X pins σ H s) (hH:H l=some (.lst xs)):xs.length≤sizeLine∧∃ (its:List Value) (n:Nat),Vals xs its∧xs.length=its.length∧s.heap.get? l=some { cls:=.type "list",data:=.seq its.toArray n }:=by
 obtain⟨z,its,n,r,e⟩:=I.hok l _ hH
 exact⟨z,its,n,r,r.length,e⟩
theorem notLongL {n:Nat}(h:n≤sizeLine):Builtin.List.listTooLong n=false:=by
 unfold Builtin.List.listTooLong
 exact decide_eq_false (by lia)
end
section
variable {X:Cx}
def rAppend:V→List V→Hp→VK→Prop:=fun x vs H Q=>∃ l xs y,x=.ref l∧vs=[y]∧H l=some (.lst xs)∧xs.length<sizeLine∧Q .non (upd H l (.lst (xs++[y])))
theorem mt_append:MtM X "list.append" rAppend:=by
 intro pins s σ H x vs v us Q I rx rv h
 obtain⟨l,xs,y,rfl,rfl,hH,hz,q⟩:=h
 cases rx
 obtain⟨u,rfl,ru⟩:=rv.one
 obtain⟨z,its,n,r,hl,e⟩:=I.lstM hH
 refine call_meets F.slot_list_append ⟨_,e,rfl⟩ F.entry_list_append (F.args_list_append_2 _ _) (PySem.list_append l its.toArray n u (by rw[List.size_toArray]; lia)) ⟨e,?_⟩
 refine⟨.non,_,I.lset (its':=its++[u]) hH e (by simp) (r.append (.cons ru .nil)) ?_,rfl,q⟩
 rw[List.length_append,List.length_singleton]
 lia
theorem len_rep {α:Type}(xs:List α)(k:Nat):(List.replicate k xs).flatten.length=k*xs.length:=by
 induction k with
 |zero=>simp
 |succ k ih=>rw[List.replicate_succ,List.flatten_cons,List.length_append,ih,Nat.succ_mul,Nat.add_comm]
end
end L2
namespace Att
open PySem PySem.W PySem.Calls PyProof.Rows
theorem ints_of_wellAll {P:Params}{h:Heap}:∀ (ns:List Int) (vs:List Value),WellAll P h vs (ns.map WData.int)→IntsAre vs ns:=by
 intro ns
 induction ns with
 |nil =>
  intro vs w
  rw[List.map_nil] at w
  cases w
  exact .nil
 |cons n ns ih =>
  intro vs w
  rw[List.map_cons] at w
  cases w with
  |cons a b =>
   cases a
   exact .cons _ _ (ih _ b)
theorem script_of {l:OpenLaw}{n:Nat}(hn:l.most=some n){P:Params}{h:Heap}{args:List WData}{vals:List Value}
  (hpre:l.row.toRowW.claim.pre args=true) (hwl:WellAll P h vals args) :
  ∃ a vs ns,vals=[Value.ref a]∧args=[WData.list (ns.map WData.int)]∧h.get? a=some { cls:=.type "list",data:=.seq vs.toArray }∧IntsAre vs ns∧ns.length≤n:=by
 have hsh:WShape.hasAll [] args [.list .int]=true:=(pre_splitW hpre).1
 have hc:l.pre.holds [] { args:=args }=true:=(pre_splitW hpre).2
 obtain⟨d,r,rfl,h1,h2⟩:=hasAllW_cons hsh
 obtain rfl:=hasAllW_nil h2
 obtain⟨xs,rfl,h3⟩:=hasW_list h1
 obtain⟨ns,rfl⟩:=items_int h3
 have hlen:ns.length≤n:=by
  unfold OpenLaw.pre at hc
  have h4:(WTm.not (.lt (.lit (.int (n:Int))) (.len (.arg 0)))).holds [] { args:=[.list (ns.map .int)] }=true:=by
   have h4:=(holds_andW hc).1
   rw[hn] at h4
   exact h4
  have h5:=condW_of h4 (w_not (w_lt w_lit (w_len_list (w_arg rfl))))
  rw[List.length_map] at h5
  refine Nat.le_of_not_lt fun q=>?_
  have q':(n:Int)<((ns.length:Nat):Int):=by lia
  first
   |(rw[decide_eq_true q'] at h5; exact absurd h5 (by decide))
   |(simp at h5; lia)
 cases hwl with
 |cons w1 w2 =>
  cases w2
  cases w1 with
  |list ho hall=>exact⟨_,_,ns,rfl,rfl,ho,ints_of_wellAll ns _ hall,hlen⟩
theorem post_true (l:OpenLaw)(args:List WData):l.row.toRowW.claim.post args (.bool true) args=true :=
 postW_of (r:=l.row.toRowW) (X:=(true == true))
  (show WShape.has [] (.bool true) .bool=true by first | rfl | decide | simp[WShape.has,WShape.arms,WShape.armsAll])
  (show (WTm.eq .res (.lit (.bool true))).value [] { args:=args,res:=some (.bool true),after:=args }=some (.bool (true == true)) from w_eq_bool (w_res rfl) w_lit) rfl
theorem attach_call {l:OpenLaw}{n:Nat}{q:Program}{loose:List Str}{XP:(Str→Option Value)→Heap→Prop}{YP:World→Heap→Prop}{d:DefRec}
  (hn:l.most=some n) (hdf:d.params.defaults=[])
  (call:∀ (w:World) (s₀ s₁:Shared) (mg mb:Str→Option Value) (fa:Addr) (o:Obj) (pm cd doc:Value) (a:Addr) (vs:List Value) (ns:List Int),
   Ground q loose [] XP w s₀ mg mb s₁.heap→YP w s₁.heap →
   s₁.heap.get? fa=some o→o.data=.func (docDef d.name d.params d.body d.scope pm cd doc)→s₁.heap.CodeRec cd d.name→mg d.name=some (.ref fa) →
   s₁.heap.get? a=some { cls:=.type "list",data:=.seq vs.toArray }→IntsAre vs ns→ns.length≤n→s₁.gens=#[] →
   codeAny (model l.prog w) callerA (.call (.ref fa) ⟨[.ref a],[]⟩) (fun r s'=>r=.ok (.ret (.bool true))∧OldK s₁.heap s'.heap∧s'.os=s₁.os∧AllBare s'.gens) s₁) :
  WalkO q loose XP YP l.row.toRowW d [] (fun f vs=>PySem.call f vs):=by
 intro w s₀ s₁ mg mb G Y fa o pm cd doc dV kV ho hd hcd hD hmg hg args vals as hpre hlay hrd hwl hlo
 obtain rfl:dV=.none:=Dflts.none hD hdf
 obtain rfl:kV=.none:=Dflts.noKw hD
 obtain⟨a,vs,ns,rfl,rfl,hobj,hints,hlen⟩:=script_of hn hpre hwl
 refine enter_call (codeAny_mono (call w s₀ s₁ mg mb fa o pm cd doc a vs ns G Y ho (fd_plain hd) hcd hmg hobj hints hlen hg) fun r s' hq=>?_)
 obtain⟨rfl,h2,h3,h4⟩:=hq
 exact⟨.inl ⟨.bool true,.bool true,[],rfl,fun _=>rfl,.bool true,post_true l _,fun _=>⟨List.Pairwise.nil,fun _ hm=>(nomatch hm)⟩⟩,h2,h3,h4⟩
end Att
namespace L2
open PySem PySem.Spec PyProof.Rows
theorem vals_ints:∀ {vs:List Value} {ns:List Int},IntsAre vs ns→Vals (ns.map V.int) vs
 |_,_,.nil=>.nil
 |_,_,.cons n t h=>.cons ⟨t,rfl⟩ (vals_ints h)
def Only (H:Hp):Prop:=∀ b,H b=none∨∃ o xs,H b=some (.frz o (.lst xs))
theorem law_call {P:Program}{w:World}{K:PySem.W.Frag}{mg mb:Str→Option Value}{CX:CXT}{k:Nat}{fa a:Addr}{fd:FuncData}{x:Str}{sp:Sp}{s₁:Shared}{vs:List Value}{ns:List Int}
  (KX:K.In s₁.heap) (hns:s₁.heap.Ns mainGlobals mg) (hb:s₁.heap.Ns builtinsNs mb) (hbb:∀ x:Str,x≠"__name__"→mb x=bootBuiltins x) (hlim:s₁.heap.NoLimit) (hg:s₁.gens=#[])
  (ha:s₁.heap.get? a=some { cls:=.type "list",data:=.seq vs.toArray }) (hi:IntsAre vs ns) (hl:ns.length≤sizeLine) (hr:Room k callerA)
  (F:∀ base:Heap,K.In base→base.Ns mainGlobals mg→FnOk P w K mg base CX k fa fd [x] sp) (hbind:∀ (s:Shared) (u:Value),BindsTo s fd ⟨[u],[]⟩ [(x,u)])
  (hsp:∀ H:Hp,Only H→SqL K H a (ns.map V.int)→sp [.ref a] H (fun v _=>v=.bl true) fun _ _ _=>False)
  (hCX:∀ H e s',CX [] H s₁ (fun _ _ _=>False) e s'→False) :
  codeAny (model P w) callerA (.call (.ref fa) ⟨[.ref a],[]⟩) (fun r s'=>r=.ok (.ret (.bool true))∧OldK s₁.heap s'.heap∧s'.os=s₁.os∧AllBare s'.gens) s₁:=by
 have rv:=vals_ints hi
 have lenV:=hi.length
 have core:∀ H:Hp,Only H→SqL K H a (ns.map V.int)→HOk P w H s₁.heap→(∀ b,H b≠none→b=a)→(H a≠none→K.lookup a=none) →
   codeAny (model P w) callerA (.call (.ref fa) ⟨[.ref a],[]⟩) (fun r s'=>r=.ok (.ret (.bool true))∧OldK s₁.heap s'.heap∧s'.os=s₁.os∧AllBare s'.gens) s₁:=by
  intro H hO hS hok hA hK
  have base_of:∀ {b:Addr} {o:Obj},s₁.heap.get? b=some o→H b=none→(hidT s₁.heap H).get? b=some o:=fun e n=>hidT_get e n
  have noA:∀ {b:Addr} {o:Obj} {es:Array DictEntry} {ep:Nat},s₁.heap.get? b=some o→o.data=.dict es ep→H b=none:=fun {b o es ep} e d=>by
   cases q:H b with
   |none=>rfl
   |some u =>
    have e':b=a:=hA b (by rw[q]; simp)
    subst e'
    rw[ha] at e; cases e
    have d':Data.seq vs.toArray _=Data.dict es ep:=d
    cases d'
  have nsK:∀ {b:Addr} {m:Str→Option Value},s₁.heap.Ns b m→(hidT s₁.heap H).Ns b m:=fun {b m} ⟨o,es,ep,e,d,r⟩=>⟨o,es,ep,base_of e (noA e d),d,r⟩
  have hKb:K.In (hidT s₁.heap H):=fun b o e=>base_of (KX b o e) (by
   cases q:H b with
   |none=>rfl
   |some u =>
    have e':b=a:=hA b (by rw[q]; simp)
    subst e'
    rw[hK (by rw[q]; simp)] at e; cases e)
  have hM:Mod K mg (hidT s₁.heap H):=⟨hKb,nsK hns,⟨mb,nsK hb,hbb⟩,let ⟨mc,h1,h2⟩:=hlim; ⟨mc,nsK h1,h2⟩⟩
  have e0:Env0 P w K mg (hidT s₁.heap H) callerA [] s₁ H:=⟨rfl,hM,fun b o e=>of_hidT e,Nat.le_of_eq (hidT_size _ _),trivial,fun b hb=>absurd (show b∈([]:List Addr) from hb) (by simp),hok,.of_eq hg⟩
  refine codeAny_mono ((F _ hKb (nsK hns)).run callerA [] s₁ H ⟨[.ref a],[]⟩ [.ref a] [.ref a] _ _ hr e0 (hbind s₁ (.ref a)) (.cons rfl .nil) (hsp H hO hS)) fun r s' h=>?_
  cases r with
  |error e=>exact (hCX H e s' h).elim
  |ok fl =>
   cases fl with
   |next=>exact False.elim h
   |brk=>exact False.elim h
   |cont=>exact False.elim h
   |ret u =>
    obtain⟨v,H',os,bare,un,hok',r',q⟩:=h
    have q':v=.bl true:=q
    subst q'
    obtain rfl:u=Value.bool true:=r'
    refine⟨rfl,OldK.of_keep fun b o e=>?_,os,bare⟩
    cases q:H b with
    |none=>exact un.keep b o e q (by intro z; exact absurd (show b∈([]:List Addr) from z) (by simp)) (by simp)
    |some u =>
     rcases hO b with z | ⟨ob,xs,z⟩
     ·rw[q] at z; cases z
     ·have z2:=un.frzs b ob _ z
      obtain⟨e1,_⟩:=hok b _ z
      obtain⟨e2,_⟩:=hok' b _ z2
      rw[e] at e1; cases e1
      exact e2
 cases hk:K.lookup a with
 |some o =>
  have e:=KX a o hk
  rw[ha] at e
  cases e
  refine core (fun _=>none) (fun _=>.inl rfl) (.inr ⟨_,vs.toArray,_,hk,rfl,rfl,rfl,by rw[List.size_toArray,lenV]; exact hl,by simpa using rv⟩) (fun b u z=>by have z':(none:Option HO)=some u:=z; cases z') (fun b z=>absurd rfl z) fun z=>absurd rfl z
 |none =>
  refine core (fun b=>if b=a then some (.frz { cls:=.type "list",data:=.seq vs.toArray } (.lst (ns.map V.int))) else none) (fun b=>?_) (.inl (.inr ⟨{ cls:=.type "list",data:=.seq vs.toArray },if_pos rfl⟩)) (fun b u z=>?_) (fun b z=>?_) fun _=>hk
  ·by_cases hb:b=a
   ·exact .inr ⟨_,_,if_pos hb⟩
   ·exact .inl (if_neg hb)
  ·by_cases hb:b=a
   ·have z':=(if_pos hb).symm.trans z
    cases z'
    subst hb
    exact⟨ha,by rw[List.length_map]; exact hl,vs,_,rv,ha⟩
   ·have z':=(if_neg hb).symm.trans z
    cases z'
  ·by_cases hb:b=a
   ·exact hb
   ·exact absurd (if_neg hb) z
abbrev KOf {K:PySem.W.Frag}{h:Heap}(_:K.In h):PySem.W.Frag:=K
theorem walk_of {l:PySem.W.OpenLaw}{n k:Nat}{q:Program}{loose:List Str}{XP:(Str→Option Value)→Heap→Prop}{YP:World→Heap→Prop}{d:DefRec}{K:Params→PySem.W.Frag}{CX:World→CXT}{sp:World→Sp}{x:Str}
  (hn:l.most=some n) (hn2:n≤sizeLine) (hdf:d.params.defaults=[]) (hr:Room k callerA)
  (hY:∀ (w:World) (h:Heap),YP w h→(K w.params).In h)
  (F:∀ (w:World) (mg:Str→Option Value) (fa:Addr) (h:Heap),(K w.params).In h→h.Ns mainGlobals mg→mg d.name=some (.ref fa) →
   ∃ fd:FuncData,(∀ (s:Shared) (u:Value),BindsTo s fd ⟨[u],[]⟩ [(x,u)]) ∧
    ∀ base:Heap,(K w.params).In base→base.Ns mainGlobals mg→FnOk l.prog w (K w.params) mg base (CX w) k fa fd [x] (sp w))
  (hsp:∀ (w:World) (H:Hp) (a:Addr) (ns:List Int),ns.length≤n→Only H→SqL (K w.params) H a (ns.map V.int)→sp w [.ref a] H (fun v _=>v=.bl true) fun _ _ _=>False)
  (hCX:∀ (w:World) (H:Hp) (s:Shared) (e:Value) (s':Shared),CX w [] H s (fun _ _ _=>False) e s'→False) :
  PySem.W.WalkO q loose XP YP l.row.toRowW d [] (fun f vs=>PySem.call f vs):=by
 refine Att.attach_call hn hdf fun w s₀ s₁ mg mb fa o pm cd doc a vs ns G Y ho hd hcd hmg hobj hints hlen hg=>?_
 have KX:=hY w _ Y
 obtain⟨fd,hb,hF⟩:=F w mg fa _ KX G.T.g hmg
 exact law_call KX G.T.g G.T.b G.T.builtins G.T.nolimit hg hobj hints (Nat.le_trans hlen hn2) hr hF hb (fun H hO hS=>hsp w H a ns hlen hO hS) fun H e s'=>hCX w H s₁ e s'
def defArgs (s:Stmt):Arguments:=match s with
 |.FunctionDef _ a _ _ _ _ _ _ _ _=>a
 |_=>{ posonlyargs:=[],args:=[],vararg:=none,kwonlyargs:=[],kw_defaults:=[],kwarg:=none,defaults:=[] }
def defBody (s:Stmt):List Stmt:=match s with
 |.FunctionDef _ _ b _ _ _ _ _ _ _=>b
 |_=>[]
def defScope (s:Stmt):Scope:=match s with
 |.FunctionDef _ _ _ _ _ _ sc _ _ _=>sc
 |_=>{ kind:=.function,names:=[],isGenerator:=false,isCoroutine:=false }
abbrev CX0:CXT:=fun _ _ _ _ _ _=>False
abbrev E0:XK:=fun _ _ _=>False
theorem pass0 {X:Cx}:Passes CX0 X E0:=fun _ _ _ _ _ _ _ h=>h.elim
structure Fun (K:PySem.W.Frag)(x qual:Str)(st:Stmt)(f:Addr)(fd:FuncData):Prop where
 ex:∃ (oc:Value) (od:Option Addr) (kV doc pm:Value) (an:Option Addr) (cdv ct:Value) (osl:Array (Option Value)),
  fd=PySem.W.fnOf x qual (defArgs st) (defBody st) (defScope st) .none kV doc pm an cdv ct∧K.lookup f=some ⟨oc,od,.func fd,osl⟩∧PySem.W.codeIn K cdv qual=true
 kp:PySem.W.keepIn K (.ref f)=true
section
variable {P:Program}{w:World}{K:PySem.W.Frag}{mg:Str→Option Value}{base:Heap}
theorem Fun.ok {x qual:Str}{st:Stmt}{f:Addr}{fd:FuncData}{N ps:List Str}{k:Nat}{sp:Sp}(F:Fun K x qual st f fd)(S:FnScope N ps (defScope st))(len:∀ vs H Q E,sp vs H Q E→vs.length=ps.length)
  (hbody:∀ (cdv:Value) (A:Around) (outer:List Env) (s:Shared) (H:Hp) (vs:List V) (Q:VK) (E:XK),Room k (A.deeper (envOfC qual (defScope st) s.heap.objs.size f cdv))→sp vs H Q E →
   ∃ t,PSs (cxOf CX0 P w K mg base N qual (defScope st) f cdv A outer s H E).nox (defBody st) t∧t { nx:=fun _ H'=>Q .non H',rt:=Q } (start N vs) H):FnOk P w K mg base CX0 (k+1) f fd ps sp:=by
 obtain⟨oc,od,kV,doc,pm,an,cdv,ct,osl,rfl,lk,hcd⟩:=F.ex
 refine fn_of lk hcd S len fun A outer s H vs Q E hr hsp=>?_
 obtain⟨t,h,q⟩:=hbody cdv A outer s H vs Q E hr hsp
 exact⟨t,h.nox,q⟩
theorem Fun.binds {x qual:Str}{st:Stmt}{f:Addr}{fd:FuncData}{ps:List Str}(F:Fun K x qual st f fd)
  (h:∀ (kV doc pm:Value) (an:Option Addr) (cdv ct:Value) (us:List Value),us.length=ps.length→bindArgs (PySem.W.fnOf x qual (defArgs st) (defBody st) (defScope st) .none kV doc pm an cdv ct) ⟨us,[]⟩=pure (ps.zip us)):Binds K fd ps []:=by
 obtain⟨oc,od,kV,doc,pm,an,cdv,ct,osl,rfl,lk,hcd⟩:=F.ex
 exact .all (h kV doc pm an cdv ct)
theorem fun_mk {x qual:Str}{st:Stmt}{f:Addr}{oc:Value}{od an:Option Addr}{osl:Array (Option Value)}{kV doc pm cdv ct:Value}(l:K.lookup f=some ⟨oc,od,.func (PySem.W.fnOf x qual (defArgs st) (defBody st) (defScope st) .none kV doc pm an cdv ct),osl⟩)
  (c:PySem.W.codeIn K cdv qual=true) (k:PySem.W.keepIn K (.ref f)=true):Fun K x qual st f (PySem.W.fnOf x qual (defArgs st) (defBody st) (defScope st) .none kV doc pm an cdv ct):=⟨⟨oc,od,kV,doc,pm,an,cdv,ct,osl,rfl,l,c⟩,k⟩
end
theorem hu_of {A:Around}{k:Nat}(hr:Room k A):A.units+1<cLine:=Nat.lt_of_le_of_lt (Nat.add_le_add_left (by decide:1≤64) _) hr.units
def Same (H H':Hp):Prop:=∀ b o,H b=some o→H' b=some o
theorem Same.refl (H:Hp):Same H H:=fun _ _ h=>h
theorem Same.trans {H H1 H2:Hp}(a:Same H H1)(b:Same H1 H2):Same H H2:=fun c o h=>b c o (a c o h)
theorem Same.free {H H':Hp}(e:Same H H'){l:Addr}(h:H' l=Option.none):H l=Option.none:=by
 cases q:H l with
 |none=>rfl
 |some o =>
  rw[e l o q] at h
  cases h
theorem Same.seq {K:PySem.W.Frag}{H H':Hp}{a:Addr}{xs:List V}(e:Same H H')(h:SqL K H a xs):SqL K H' a xs:=by
 rcases h with (h | ⟨o,h⟩) | h
 ·exact .inl (.inl (e _ _ h))
 ·exact .inl (.inr ⟨o,e _ _ h⟩)
 ·exact .inr h
section
variable {X:Cx}{pins:List (Addr×Obj)}{σ:St}{H:Hp}{s:Shared}
theorem Inv.track {a:Addr}{o:HO}(I:Inv X pins σ H s)(hn:H a=none)(h0:X.s₀.heap.objs.size≤a)(hL:a≠X.env.locals)
  (hc:∀ x c,X.env.cells.lookup x=some c→c≠a) (hp:∀ p∈X.pn++pins,p.1≠a) (new:ObjOk X.prog X.w (upd H a o) s.heap a o):Inv X pins σ (upd H a o) s:=by
 have sm:∀ b u,H b=some u→upd H a o b=some u:=fun b u e=>by rw[upd_ne (ne_of_none e hn)]; exact e
 have nb:∀ b,b≠a→H b=none→upd H a o b=none:=fun b hb e=>by rw[upd_ne hb]; exact e
 refine⟨I.ok,I.os,I.bare,⟨I.base.keep,I.base.slot,fun b ob e n hx=>?_,I.base.there,fun b xs e=>sm _ _ (I.base.tups b xs e),fun b ob u e=>sm _ _ (I.base.frzs b ob u e),fun b ps e=>?_⟩,I.loc,I.cell,nb _ (Ne.symm hL) I.free,fun x c e=>nb _ (hc x c e) (I.freeC x c e),fun p h=>?_,fun b u e=>?_,I.len⟩
 ·exact nb b (Nat.ne_of_lt (Nat.lt_of_lt_of_le (Heap.lt_size e) h0)) (I.base.free b ob e n hx)
 ·obtain⟨more,q⟩:=I.base.tbls b ps e
  exact⟨more,sm _ _ q⟩
 ·obtain⟨e,n,r⟩:=I.pin p h
  exact⟨e,nb _ (hp p h) n,r⟩
 ·by_cases hb:b=a
  ·subst hb; rw[upd_same] at e; cases e; exact new
  ·rw[upd_ne hb] at e
   exact (I.hok b u e).stay (fun _ _ _ q=>q) (fun c q=>sm _ _ q) fun c xs q=>sm _ _ q
end
def tTrue:TT:=fun _ H Q=>Q true H
def PIf (X:Cx)(ifs:List Expr)(t:TT):Prop :=
 ∀ (pins:List (Addr×Obj)) (s:Shared) (σ:St) (H:Hp) (Q:Bool→Hp→Prop),Inv X pins σ H s→t σ H Q →
  wpAny (model X.prog X.w) X.A (forIn ifs true fun c r=>if r=true then do let ok ← isTrue c X.env (eval c X.env); pure (ForInStep.yield ok) else pure (ForInStep.yield r)) (TP X pins σ Q) X.xe s
theorem pif_nil {X:Cx}:PIf X [] tTrue:=fun _ _ _ H _ I h=>wpAny_tests_nil ⟨H,I,h⟩
theorem pif_one {X:Cx}{c:Expr}{t:TT}(h:PT X c t):PIf X [c] t:=fun pins s σ H Q I q=>wpAny_tests_one (h pins s σ H Q I q)
section
variable {prog:Program}{w:World}{A:Around}{R:Result→Shared→Prop}{s:Shared}
theorem compLoop_go {elt target iter:Expr}{ifs:List Expr}{scope:Scope}{pos:Pos}{it acc:Value}{env:Env}(I:Nat→Shared→Prop)
  (turn:∀ n s,I n s→wpAny (model prog w) A (pyNext it) (fun r s₁=>match r with
   |none=>R (.ok .next) s₁
   |some v=>wpAny (model prog w) A (letOwnedTupleGo target it v) (fun _ s₀=>wpAny (model prog w) A (assign target env v) (fun _ s₂ =>
     wpAny (model prog w) A (forIn ifs true fun c r=>if r=true then do let ok ← isTrue c env (eval c env); pure (ForInStep.yield ok) else pure (ForInStep.yield r)) (fun ok s₃ =>
      if ok=true then wpAny (model prog w) A (eval elt env) (fun x s₄ =>
       wpAny (model prog w) A (call (.builtin "list.append") [acc,x]) (fun _ s₅=>∃ m,m<n∧I m s₅) (fun _ _=>False) s₄) (fun _ _=>False) s₃
      else ∃ m,m<n∧I m s₃) (fun _ _=>False) s₂) (fun _ _=>False) s₀) (fun _ _=>False) s₁) (fun _ _=>False) s)
  (n:Nat) (h:I n s) :
  codeAny (model prog w) A (.compLoop (.ListComp elt [⟨target,iter,ifs,0⟩] scope pos) 0 it acc env) R s:=by
 refine codeAny_loop rfl I (fun n s hI=>?_) n h
 show wpAny _ A ((compTurn (.ListComp elt [⟨target,iter,ifs,0⟩] scope pos) 0 it acc env).onRaise (fun x=>do noteFrame x env; theTreesLotGoes x)) _ _ s
 refine wpAny_noted ?_
 rw[compTurn_list]
 refine wpAny_bind (wpAny_standAt (wpAny_bind (wpAny_mono (turn n s hI) (fun r s₁ h₁=>?_) fun _ _ f=>f.elim)))
 cases r with
 |none=>exact wpAny_pure h₁
 |some v =>
  refine wpAny_bind (wpAny_mono h₁ (fun _ s₀ h₀=>?_) fun _ _ f=>f.elim)
  refine wpAny_bind (wpAny_mono h₀ (fun _ s₂ h₂=>wpAny_bind (wpAny_mono h₂ (fun ok s₃ h₃=>?_) fun _ _ f=>f.elim)) fun _ _ f=>f.elim)
  cases ok with
  |false=>exact wpAny_pure ⟨rfl,h₃⟩
  |true =>
   exact wpAny_bind (wpAny_bind (wpAny_mono h₃ (fun x s₄ h₄=>wpAny_bind (wpAny_mono h₄ (fun _ s₅ h₅=>wpAny_pure (wpAny_pure ⟨rfl,h₅⟩)) fun _ _ f=>f.elim)) fun _ _ f=>f.elim))
end
def cxC (X:Cx)(ts:List Str)(scope:Scope)(cl:List (Str×Addr))(s₂:Shared)(H1:Hp)(C:Addr)(fp:List Addr):Cx :=
 { X with N:=ts++X.N,s₀:=s₂,H₀:=H1,env:=compEnvC scope cl C X.env,outer:=X.stack,stack:=X.stack,ex:=fp,fn:=fun _=>false,pn:=[],xe:=fun _ _=>False }
structure CompScope (X:Cx)(ts:List Str)(scope:Scope):Prop where
 kind:scope.kind=.function
 cell:∀ y∈scope.names,y.2≠.cell
 names:∀ y∈scope.names,y.2=.local→scope.names.lookup y.1=some .local
 free:∀ y∈scope.names,y.2=.free→X.env.kindOf y.1=some .cell∨X.env.kindOf y.1=some .free
 own:∀ y∈X.N,scope.names.lookup y≠some .local
structure CompCells (X:Cx)(scope:Scope)(cl:List (Str×Addr)):Prop where
 sub:∀ x c,cl.lookup x=some c→X.env.cells.lookup x=some c
 has:∀ x,scope.names.lookup x=some .free→∃ c,cl.lookup x=some c
theorem closure_ok {env:Env}(has:∀ x,(env.kindOf x=some .cell∨env.kindOf x=some .free)→∃ c,env.cells.lookup x=some c)(scope:Scope)
  (hfr:∀ y∈scope.names,y.2=.free→env.kindOf y.1=some .cell∨env.kindOf y.1=some .free) :
  ∃ cl,closureFor scope env=pure cl∧(∀ x c,cl.lookup x=some c→env.cells.lookup x=some c)∧(∀ y∈scope.names,y.2=.free→∃ c,cl.lookup y.1=some c):=by
 have main:∀ (l:List (Str×NameKind)) (acc:List (Str×Addr)),(∀ y∈l,y.2=.free→env.kindOf y.1=some .cell∨env.kindOf y.1=some .free)→(∀ x c,acc.lookup x=some c→env.cells.lookup x=some c) →
   ∃ cl,(forIn l acc fun (x:Str×NameKind) (cs:List (Str×Addr))=>if (x.2 == NameKind.free)=true then do let a ← cellOf env x.1; pure (ForInStep.yield ((x.1,a)::cs)) else pure (ForInStep.yield cs))=(pure cl:Sem (List (Str×Addr))) ∧
    (∀ x c,cl.lookup x=some c→env.cells.lookup x=some c)∧(∀ x c,acc.lookup x=some c→∃ c',cl.lookup x=some c')∧(∀ y∈l,y.2=.free→∃ c,cl.lookup y.1=some c):=by
  intro l
  induction l with
  |nil=>intro acc _ h; exact⟨acc,rfl,h,fun x c e=>⟨c,e⟩,fun _ z=>nomatch z⟩
  |cons y l ih =>
   intro acc hl ha
   obtain⟨n,k⟩:=y
   by_cases hk:k=.free
   ·subst hk
    obtain⟨c,hc⟩:=has n (hl (n,.free) List.mem_cons_self rfl)
    obtain⟨cl,e,h1,h2,h3⟩:=ih ((n,c)::acc) (fun y hy=>hl y (List.mem_cons_of_mem _ hy)) (fun x d e=>by
     rw[List.lookup_cons] at e
     cases q:x == n with
     |true=>rw[q] at e; rw[eq_of_beq q]; cases e; exact hc
     |false=>rw[q] at e; exact ha x d e)
    have hcell:cellOf env n=pure c:=by unfold cellOf; rw[hc]
    refine⟨cl,?_,h1,fun x d e=>?_,fun y hy hf=>?_⟩
    ·rw[List.forIn_cons]
     simp only[beq_self_eq_true,if_true,hcell,pure_bind]
     exact e
    ·cases q:x == n with
     |true=>exact h2 x c (by rw[List.lookup_cons,q])
     |false=>exact h2 x d (by rw[List.lookup_cons,q]; exact e)
    ·rcases List.mem_cons.mp hy with rfl | hy
     ·exact h2 n c (by simp[List.lookup_cons])
     ·exact h3 y hy hf
   ·obtain⟨cl,e,h1,h2,h3⟩:=ih acc (fun y hy=>hl y (List.mem_cons_of_mem _ hy)) ha
    refine⟨cl,?_,h1,h2,fun y hy hf=>?_⟩
    ·rw[List.forIn_cons]
     have hb:(k == NameKind.free)=false:=by simpa using hk
     simp only[hb,Bool.false_eq_true,if_false,pure_bind]
     exact e
    ·rcases List.mem_cons.mp hy with rfl | hy
     ·exact absurd hf hk
     ·exact h3 y hy hf
 obtain⟨cl,e,h1,_,h3⟩:=main scope.names [] hfr (fun x c e=>by simp at e)
 refine⟨cl,?_,h1,h3⟩
 unfold closureFor
 first
  |(simp only[bind_pure]; exact e)
  |(rw[show (forIn scope.names [] _:Sem (List (Str×Addr)))=pure cl from e]; rfl)
theorem lookup_relabel_back {env:Env}:∀ {names:List (Str×NameKind)} {x:Str} {k:NameKind},
  (names.map fun (n,k)=>if (k == NameKind.free&&env.scope.kind == .function&&env.kindOf n == some .cell) then (n,NameKind.cell) else (n,k)).lookup x=some k →
  names.lookup x=some k∨(k=.cell∧names.lookup x=some .free)
 |[],_,_,h=>by simp at h
 |(n,j)::r,x,k,h=>by
  have ih:=@lookup_relabel_back env r x k
  have h':List.lookup x ((if (j == NameKind.free&&env.scope.kind == .function&&env.kindOf n == some .cell)=true then (n,NameKind.cell) else (n,j)) ::
   (r.map fun (n,k)=>if (k == NameKind.free&&env.scope.kind == .function&&env.kindOf n == some .cell) then (n,NameKind.cell) else (n,k)))=some k:=h
  cases hx:x == n with
  |true =>
   by_cases hc:(j == NameKind.free&&env.scope.kind == .function&&env.kindOf n == some .cell)=true
   ·rw[if_pos hc] at h'
    simp only[List.lookup_cons,hx] at h'
    cases h'
    refine .inr ⟨rfl,?_⟩
    simp only[Bool.and_eq_true,beq_iff_eq] at hc
    simp[List.lookup_cons,hx,hc.1.1]
   ·rw[if_neg hc] at h'
    simp only[List.lookup_cons,hx] at h'
    cases h'
    exact .inl (by simp[List.lookup_cons,hx])
  |false =>
   have e:List.lookup x (r.map fun (n,k)=>if (k == NameKind.free&&env.scope.kind == .function&&env.kindOf n == some .cell) then (n,NameKind.cell) else (n,k))=some k:=by
    by_cases hc:(j == NameKind.free&&env.scope.kind == .function&&env.kindOf n == some .cell)=true
    ·rw[if_pos hc] at h'; simp only[List.lookup_cons,hx] at h'; exact h'
    ·rw[if_neg hc] at h'; simp only[List.lookup_cons,hx] at h'; exact h'
   rcases ih e with q | ⟨q1,q2⟩
   ·exact .inl (by simp only[List.lookup_cons,hx]; exact q)
   ·exact .inr ⟨q1,by simp only[List.lookup_cons,hx]; exact q2⟩
section
variable {X:Cx}{pins:List (Addr×Obj)}{σ:St}{H1:Hp}{s₂:Shared}{ts:List Str}{scope:Scope}{cl:List (Str×Addr)}{fp:List Addr}{C:Addr}
theorem Inv.fpLt {tg:Expr}{J:It}{it:Addr}{tn:Nat→Heap→Prop}(T:Turn X.prog X.w X.K tg J fp it tn){i:Nat}{h:Heap}(st:tn i h):∀ b∈fp,b<h.objs.size:=fun b hb=>by
 obtain⟨o,e,_⟩:=T.obj i h st b hb
 exact Heap.lt_size e
theorem cxC_ok (I2:Inv X pins σ H1 s₂)(S:CompScope X ts scope)(L:CompCells X scope cl)(hf:∀ b∈fp,FpOk X pins H1 b)(hlt:∀ b∈fp,b<s₂.heap.objs.size)(hC:s₂.heap.objs.size≤C) :
  (cxC X ts scope cl s₂ H1 C fp).Ok where
 mod:=I2.ok.mod
 kind:=S.kind
 glob:=I2.ok.glob
 blt:=I2.ok.blt
 above:=hC
 inj:=fun x y c h1 h2=>I2.ok.inj x y c (L.sub x c h1) (L.sub y c h2)
 has:=fun x hx=>by
  have hx':(relabel scope X.env).names.lookup x=some .cell∨(relabel scope X.env).names.lookup x=some .free:=hx
  have key:scope.names.lookup x=some .free:=by
   rcases hx' with q | q
   ·rcases lookup_relabel_back q with z | ⟨_,z⟩
    ·exact absurd rfl (S.cell _ (PySem.mem_of_lookup z))
    ·exact z
   ·rcases lookup_relabel_back q with z | ⟨z,_⟩
    ·exact z
    ·cases z
  exact L.has x key
 cab:=fun x c h=>by cases h
 hd:=I2.ok.hd
 frames:=I2.ok.frames
 stk:=.inl rfl
 exf:=fun b hb=>⟨Nat.ne_of_lt (Nat.lt_of_lt_of_le (hlt b hb) hC),fun x c e=>(hf b hb).2.2.2.2.1 x c (L.sub x c e)⟩
 bs:=I2.bs
 bsz:=Nat.le_trans I2.ok.bsz I2.sz
 noex:=fun b o e hb=>by
  rcases (hf b hb).2.2.2.1 with z | z
  ·exact I2.ok.noex b o e z
  ·exact absurd (Nat.lt_of_lt_of_le (Heap.lt_size e) (Nat.le_trans I2.ok.bsz z)) (Nat.lt_irrefl _)
 exfs:=fun b hb hz=>by
  rcases List.mem_cons.mp (I2.stkSub b hz) with z | z
  ·exact (hf b hb).2.1 z
  ·exact (hf b hb).2.2.1 z
 funs:=I2.stack
 frf:=I2.stkFree
theorem cxC_inv {h₁:Heap}{t₁:Nat}{m:Str→Option Value}(I2:Inv X pins σ H1 s₂)(S:CompScope X ts scope)(L:CompCells X scope cl)(hf:∀ b∈fp,FpOk X pins H1 b)(hlt:∀ b∈fp,b<s₂.heap.objs.size)
  (hC:s₂.heap.objs.size≤C) (old:∀ b o,s₂.heap.get? b=some o→h₁.get? b=some o) (hn:h₁.Ns C m) :
  Inv (cxC X ts scope cl s₂ H1 C fp) [] (List.replicate ts.length none++σ) H1 { s₂ with heap:=h₁,toks:=t₁ } where
 ok:=cxC_ok I2 S L hf hlt hC
 os:=rfl
 bare:=I2.bare
 base:=Un.kept old
 loc:=by
  refine⟨m,hn,fun i x v h1 h2 h3=>?_⟩
  have hi:ts.length≤i:=by
   by_cases hi:i<ts.length
   ·rw[List.getElem?_append_left (by simpa using hi),List.getElem?_replicate,if_pos hi] at h2
    cases h2
   ·lia
  rw[List.getElem?_append_right (by simpa using hi),List.length_replicate] at h2
  have h1':(ts++X.N)[i]?=some x:=h1
  rw[List.getElem?_append_right hi] at h1'
  have hxN:x∈X.N:=List.mem_of_getElem? h1'
  have hv:(relabel scope X.env).names.lookup x=some .local∨(relabel scope X.env).names.lookup x=some .cell∨(relabel scope X.env).names.lookup x=some .free:=h3
  have key:scope.names.lookup x=some .free:=by
   rcases hv with q | q | q
   ·rcases lookup_relabel_back q with z | ⟨z,_⟩
    ·exact absurd z (S.own x hxN)
    ·cases z
   ·rcases lookup_relabel_back q with z | ⟨_,z⟩
    ·exact absurd rfl (S.cell _ (PySem.mem_of_lookup z))
    ·exact z
   ·rcases lookup_relabel_back q with z | ⟨z,_⟩
    ·exact z
    ·cases z
  have kk:X.env.kindOf x=some .cell∨X.env.kindOf x=some .free:=S.free _ (PySem.mem_of_lookup key) rfl
  obtain⟨mX,_,hl⟩:=I2.loc
  obtain⟨u,r,lk⟩:=hl (i-ts.length) x v h1' h2 (kk.elim (fun z=>.inr (.inl z)) fun z=>.inr (.inr z))
  refine⟨u,r,.inr ⟨?_,?_⟩⟩
  ·rcases hv with q | q
   ·rcases lookup_relabel_back q with z | ⟨z,_⟩
    ·exact absurd z (S.own x hxN)
    ·cases z
   ·exact q
  ·obtain⟨c,hc⟩:=L.has x key
   refine⟨c,hc,?_⟩
   rcases lk with ⟨z,_⟩ | ⟨_,c',e',o,ho,hd⟩
   ·rcases kk with k | k <;> (rw[z] at k; cases k)
   ·have e2:=L.sub x c hc
    rw[e2] at e'
    cases e'
    exact⟨o,old _ _ ho,hd⟩
 cell:=fun x c e=>by
  obtain⟨v,o,ho,hd⟩:=I2.cell x c (L.sub x c e)
  exact⟨v,o,old _ _ ho,hd⟩
 free:=I2.hok.fresh hC
 freeC:=fun x c e=>I2.freeC x c (L.sub x c e)
 pin:=fun p hp=>absurd (show p∈([]:List (Addr×Obj)) from hp) (by simp)
 hok:=I2.hok.kept old
 len:=by
  show _=(ts++X.N).length
  rw[List.length_append,List.length_append,List.length_replicate,I2.len]
theorem back_ok {pins':List (Addr×Obj)}{σ':St}{H':Hp}{s':Shared}{h':Heap}(I2:Inv X pins σ H1 s₂)(hf:∀ b∈fp,FpOk X pins H1 b)(hC:s₂.heap.objs.size≤C)
  (Ic:Inv (cxC X ts scope cl s₂ H1 C fp) pins' σ' H' s') (hs:Heap.SameBut C s'.heap h'):Inv X pins σ H' { s' with heap:=h' }:=by
 have nC:∀ b o,s₂.heap.get? b=some o→b≠C:=fun b o e=>Nat.ne_of_lt (Nat.lt_of_lt_of_le (Heap.lt_size e) hC)
 have u:=Ic.base
 have un:Un (frs X.stack) fp H1 H' s₂.heap h' :=
  ⟨fun b o e n hb hx=>(hs.2 b (nC b o e)).trans (u.keep b o e n hb hx),fun b o e n hb hx=>by
    obtain⟨sl,q⟩:=u.slot b o e n hb hx
    exact⟨sl,(hs.2 b (nC b o e)).trans q⟩,u.free,fun b o e hx=>by
    obtain⟨o',q⟩:=u.there b o e hx
    exact⟨o',(hs.2 b (nC b o e)).trans q⟩,u.tups,u.frzs,u.tbls⟩
 have hok:HOk X.prog X.w H' h':=fun b o e=>by
  have nb:∀ c w,H' c=some w→c≠C:=fun c w q z=>by
   have:H' C=none:=Ic.free
   rw[z,this] at q; cases q
  refine (Ic.hok b o e).stay (fun c w' hc q=>(hs.2 c ?_).trans q) (fun _ q=>q) fun _ _ q=>q
  rcases hc with rfl | hc
  ·exact nb _ _ e
  ·exact nb _ _ hc
 exact I2.call' (s':={ s' with heap:=h' }) (ch:=fp) (show s'.os=s₂.os from Ic.os) un hok Ic.bare fun b hb =>
  let ⟨_,f1,_,f3,f4,f5⟩:=hf b hb
  ⟨f3,f1,f4,f5⟩
end
abbrev lstO (its:List Value) (k:Nat):Obj:={ cls:=.type "list",data:=.seq its.toArray k }
theorem comp_block {X:Cx}{pins:List (Addr×Obj)}{σ:St}{H1:Hp}{s₂:Shared}{ts:List Str}{scope:Scope}{cl:List (Str×Addr)}{fp:List Addr}{elt tg iter:Expr}{ifs:List Expr}{pos:Pos}{g:TG}{tt:TT}{te:TE}{J:It}{it:Addr}
  {tn:Nat→Heap→Prop} {E:Value→Shared→Prop} {RR:Value→Addr→Result→Shared→Prop} {Fin:List V→Hp→Prop}
  (I2:Inv X pins σ H1 s₂) (hc:X.calm=true) (T:Turn X.prog X.w X.K tg J fp it tn) (st:tn 0 s₂.heap) (hf:∀ b∈fp,FpOk X pins H1 b) (S:CompScope X ts scope) (L:CompCells X scope cl)
  (hg:∀ C,PG (cxC X ts scope cl s₂ H1 C fp) tg g) (ht:∀ C,PIf (cxC X ts scope cl s₂ H1 C fp) ifs tt) (he:∀ C,PE (cxC X ts scope cl s₂ H1 C fp) elt te)
  (W:Nat→Nat→List V→Hp→Prop) (w0:∃ m,W 0 m [] H1)
  (turn:∀ i m ys H,W i m ys H→ys.length≤sizeLine∧((J.stop i H∧Fin ys H)∨(J.go i H∧∀ x H',J.yld i H x H'→g x (List.replicate ts.length none++σ) H' fun σ2 H2=>(σ2.length=ts.length+σ.length∧σ2.drop ts.length=σ) ∧
   tt σ2 H2 fun c H3=>if c=true then te σ2 H3 fun y H4=>∃ m',m'<m∧W (i+1) m' (ys++[y]) H4 else ∃ m',m'<m∧W (i+1) m' ys H3)))
  (hRR:∀ C D s' H' ys its k σ' m',s₂.heap.objs.size≤D→s₂.heap.objs.size≤C→D≠C→Inv (cxC X ts scope cl s₂ H1 C fp) [] σ' H' s'→s'.heap.Ns C m'→s'.heap.get? D=some (lstO its k)→Vals ys its→ys.length≤sizeLine→H' D=none→Fin ys H'→RR (.ref D) C (.ok .next) s') :
  wpAny (model X.prog X.w) X.A (newList []) (fun acc s₃=>wpAny (model X.prog X.w) X.A (newFunctionEnv scope X.env.globals cl [] X.env.qual none .none (some X.env)) (fun cenv s₄ =>
   codeAny (model X.prog X.w) X.A (.compStart (.ListComp elt [⟨tg,iter,ifs,0⟩] scope pos) 0 (.ref it) acc { cenv with scope:=relabel scope X.env }) (RR acc cenv.locals) s₄) E s₃) E s₂:=by
 refine wpAny_newObj_type (wpAny_newFunctionEnv S.cell (by intro y hy; simp at hy) (fun h₁ hns₁ hsb₁=>?_) S.kind)
 dsimp only at hns₁ hsb₁ ⊢
 generalize hH2:s₂.heap.push { cls:=.type "list",dict:=none,data:=.seq ([]:List Value).toArray }=H2 at hns₁ hsb₁ ⊢
 have hCs:H2.objs.size=s₂.heap.objs.size+1:=by rw[← hH2,Heap.size_push]
 have hDC:s₂.heap.objs.size≠H2.objs.size:=by rw[hCs]; exact Nat.ne_of_lt (Nat.lt_succ_self _)
 have hC:s₂.heap.objs.size≤H2.objs.size:=by rw[hCs]; exact Nat.le_succ _
 have below:∀ b,b<s₂.heap.objs.size→b≠H2.objs.size∧b≠s₂.heap.objs.size:=fun b hb=>⟨by rw[hCs]; exact Nat.ne_of_lt (Nat.lt_succ_of_lt hb),Nat.ne_of_lt hb⟩
 have old:∀ b o,s₂.heap.get? b=some o→h₁.get? b=some o:=fun b o e=>hsb₁.extBut b o (below b (Heap.lt_size e)).1 (Heap.get?_push_of_some _ (hH2 ▸ Heap.get?_push_of_some _ e))
 have hacc:h₁.get? s₂.heap.objs.size=some (lstO [] 0):=hsb₁.extBut _ _ hDC (Heap.get?_push_of_some _ (hH2 ▸ Heap.get?_push_size _ rfl))
 have hlt:∀ b∈fp,b<s₂.heap.objs.size:=Inv.fpLt T st
 have st1:tn 0 h₁:=T.keep _ _ _ st fun b _ o e=>old b o e
 generalize hCC:H2.objs.size=C at *
 generalize hDD:s₂.heap.objs.size=D at *
 have fpD:∀ b∈fp,b≠D:=fun b hb=>(below b (hlt b hb)).2
 have cellD:∀ x c,cl.lookup x=some c→c≠D:=fun x c e=>by
  obtain⟨v,q⟩:=I2.cell x c (L.sub x c e)
  exact (below c (hDD ▸ q.lt)).2
 have stat:∀ {pins':List (Addr×Obj)} {H':Hp},(∀ p∈pins',p.1∉fp)→(∀ b∈fp,H' b=none)→∀ b∈fp,FpOk (cxC X ts scope cl s₂ H1 C fp) pins' H' b:=fun {pins' H'} hp hn b hb=>by
  refine⟨hn b hb,(below b (hlt b hb)).1,fun hz=>?_,.inl hb,fun x c e=>(hf b hb).2.2.2.2.1 x c (L.sub x c e),fun p hpp z=>?_⟩
  ·rcases List.mem_cons.mp (I2.stkSub b hz) with z | z
   ·exact (hf b hb).2.1 z
   ·exact (hf b hb).2.2.1 z
  ·exact hp p (by simpa [cxC] using hpp) (z ▸ hb)
 obtain⟨m0,w0⟩:=w0
 have nDfs:D∉frs X.stack:=fun hz=>by
  rcases List.mem_cons.mp (I2.stkSub D hz) with z | z
  ·exact (below _ (hDD ▸ I2.lt)).2 z.symm
  ·exact I2.nofs (hDD ▸ Nat.le_refl _) z
 have loop:∀ s₃:Shared,s₃={ s₂ with heap:=h₁,toks:=s₂.toks+([]:List (Str×Value)).length } →
   codeAny (model X.prog X.w) X.A (.compLoop (.ListComp elt [⟨tg,iter,ifs,0⟩] scope pos) 0 (.ref it) (.ref D) (compEnvC scope cl C X.env)) (RR (.ref D) C) s₃:=by
  rintro s₃ rfl
  refine compLoop_go (fun n s'=>∃ i ys its k H',Inv (cxC X ts scope cl s₂ H1 C fp) [] (List.replicate ts.length none++σ) H' s'∧tn i s'.heap∧(∀ b∈fp,H' b=none)∧s'.heap.get? D=some (lstO its k)∧Vals ys its∧H' D=none∧W i n ys H') ?_ m0
   ⟨0,[],[],0,H1,cxC_inv I2 S L hf (fun b hb=>hDD ▸ hlt b hb) (hDD ▸ hC) old hns₁,st1,fun b hb=>(hf b hb).1,hacc,.nil,I2.hok.fresh (hDD ▸ Nat.le_refl _),w0⟩
  rintro n s3 ⟨i,ys,its,k,H3,I3,st3,fr3,hD3,rv3,nD3,w3⟩
  have pinD:∀ {σ':St} {H':Hp} {s':Shared},Inv (cxC X ts scope cl s₂ H1 C fp) [] σ' H' s'→s'.heap.get? D=some (lstO its k)→H' D=none→Inv (cxC X ts scope cl s₂ H1 C fp) [(D,lstO its k)] σ' H' s':=fun I e n=>I.pins_of fun p hp=>by
   have:p=(D,lstO its k):=by simpa using hp
   subst this
   exact⟨e,n,hDC,nDfs,fun v z=>by cases z⟩
  have I3':=pinD I3 hD3 nD3
  have pfp:∀ p∈[(D,lstO its k)],p.1∉fp:=fun p hp hz=>by
   have:p=(D,lstO its k):=by simpa using hp
   subst this
   exact fpD D hz rfl
  obtain⟨hz,alt⟩:=turn i n ys H3 w3
  rcases alt with ⟨stop,fin⟩ | ⟨go,step⟩
  ·refine thn (T.done (cxC X ts scope cl s₂ H1 C fp) rfl rfl rfl hc i _ s3 _ H3 _ I3' (stat pfp fr3) st3 stop) fun r s4 ⟨hr,I4⟩=>?_
   subst hr
   obtain⟨e4,n4,_⟩:=I4.pin (D,lstO its k) (List.mem_append_right _ List.mem_cons_self)
   obtain⟨m4,hn4,_⟩:=I4.loc
   exact hRR C D s4 H3 ys its k _ m4 (hDD ▸ Nat.le_refl _) (hDD ▸ hC) hDC (I4.pins_of fun p hp=>nomatch hp) hn4 e4 rv3 hz n4 fin
  ·refine thn (T.item (cxC X ts scope cl s₂ H1 C fp) rfl rfl rfl hc i _ s3 _ H3 _ I3' (stat pfp fr3) st3 go) fun r s4 ⟨u,hr,h4⟩=>?_
   subst hr
   refine thn h4 fun _ s5 ⟨x,H5,I5,r5,y5,st5,fr5⟩=>?_
   have I5':=I5.pinned (stat pfp fr5) (T.obj _ _ st5)
   refine thn (hg C _ s5 _ H5 x u _ I5' r5 (step x H5 y5)) fun _ s6 ⟨σ6,H6,I6,⟨hl6,hd6⟩,q6⟩=>?_
   have wk:∀ {pins':List (Addr×Obj)} {H':Hp} {s':Shared},Inv (cxC X ts scope cl s₂ H1 C fp) pins' σ6 H' s'→Inv (cxC X ts scope cl s₂ H1 C fp) pins' (List.replicate ts.length none++σ) H' s':=fun I=>I.weak (by rw[List.length_append,List.length_replicate]; exact hl6.symm) fun j v e=>by
    by_cases hj:j<ts.length
    ·rw[List.getElem?_append_left (by simpa using hj),List.getElem?_replicate,if_pos hj] at e
     cases e
    ·rw[List.getElem?_append_right (by simpa using hj),List.length_replicate,← hd6,List.getElem?_drop] at e
     rw[show ts.length+(j-ts.length)=j by lia] at e
     exact e
   have tnK:∀ {σ7:St} {H7:Hp} {s7:Shared},Inv (cxC X ts scope cl s₂ H1 C fp) ([(D,lstO its k)]++pinsAt fp s5.heap) σ7 H7 s7→tn (i+1) s7.heap∧(∀ b∈fp,H7 b=none)∧s7.heap.get? D=some (lstO its k)∧H7 D=none:=fun {σ7 H7 s7} I7=>by
    refine⟨T.keep _ _ _ st5 fun b hb o e=>(I7.pin (b,o) (List.mem_append_right _ (List.mem_append_right _ (mem_pinsAt hb e)))).1,fun b hb=>?_,?_⟩
    ·obtain⟨o,e,d⟩:=T.obj _ _ st5 b hb
     exact (I7.pin (b,o) (List.mem_append_right _ (List.mem_append_right _ (mem_pinsAt hb e)))).2.1
    ·obtain⟨e,n,_⟩:=I7.pin (D,lstO its k) (List.mem_append_right _ (List.mem_append_left _ List.mem_cons_self))
     exact⟨e,n⟩
   refine thn (ht C _ s6 σ6 H6 _ I6 q6) fun ok s7 ⟨H7,I7,q7⟩=>?_
   cases ok with
   |false =>
    obtain⟨m',hm,w7⟩:=q7
    obtain⟨t7,f7,e7,n7⟩:=tnK I7
    exact⟨m',hm,i+1,ys,its,k,H7,(wk I7).pins_of (fun p hp=>(nomatch hp)),t7,f7,e7,rv3,n7,w7⟩
   |true =>
    refine thn (he C _ s7 σ6 H7 _ I7 q7) fun z s8 ⟨y,H8,I8,ry,m',hm,w8⟩=>?_
    obtain⟨t8,f8,e8,n8⟩:=tnK I8
    have hzi:its.length≤sizeLine:=by rw[← rv3.length]; exact hz
    refine append_at e8 (fun h9 hs9 hD9=>?_) (by rw[List.size_toArray]; exact hzi)
    have I9:Inv (cxC X ts scope cl s₂ H1 C fp) [] (List.replicate ts.length none++σ) H8 { s8 with heap:=h9 } :=
     ((wk I8).pins_of (pins':=[]) fun p hp=>nomatch hp).turned (t':=s8.toks) (fun b o hb e=>(hs9.2 b hb).trans e) n8 hDC (.inr (hDD ▸ Nat.le_refl _)) cellD (fun p hp=>absurd (show p∈([]:List (Addr×Obj)) from hp) (by simp))
    refine⟨m',hm,i+1,ys++[y],its++[z],k+1,H8,I9,T.keep _ _ _ t8 fun b hb o e=>(hs9.2 b (fpD b hb)).trans e,f8,?_,rv3.append (.cons ry .nil),n8,w8⟩
    rw[hD9]
    show some ({ cls:=.type "list",data:=.seq (its.toArray.push z) (k+1) }:Obj)=some { cls:=.type "list",data:=.seq (its++[z]).toArray (k+1) }
    rw[List.push_toArray]
 exact codeAny_compStart_list (loop _ rfl) (T.self _ 0 _ _ _ st1 (loop _ rfl))
def hidS {α:Type}:Option Nat→List (Option α)→List (Option α)
 |none,l=>l
 |some j,l=>l.set j none
def hidN:Option Nat→List Str→List Str
 |none,N=>N
 |some j,N=>N.set j ""
def Cx.hid (X:Cx)(m:Option Nat):Cx:={ X with N:=hidN m X.N }
theorem Inv.nm {X:Cx}{pins:List (Addr×Obj)}{σ σ':St}{H:Hp}{s:Shared}{N':List Str}(I:Inv X pins σ H s)(hl:σ'.length=N'.length)(h:∀ (i:Nat) (x:Str) (v:V),N'[i]?=some x→σ'[i]?=some (some v)→X.N[i]?=some x∧σ[i]?=some (some v)) :
  Inv { X with N:=N' } pins σ' H s :=
 let k:=I.ok
 ⟨⟨k.mod,k.kind,k.glob,k.blt,k.above,k.inj,k.has,k.cab,k.hd,k.frames,k.stk,k.exf,k.bs,k.bsz,k.noex,k.exfs,k.funs,k.frf⟩,I.os,I.bare,I.base,let ⟨m,hn,hl'⟩:=I.loc; ⟨m,hn,fun i x v e1 e2 e3=>let ⟨f1,f2⟩:=h i x v e1 e2; hl' i x v f1 f2 e3⟩,I.cell,I.free,I.freeC,I.pin,I.hok,hl⟩
theorem Inv.hid {X:Cx}{pins:List (Addr×Obj)}{σ:St}{H:Hp}{s:Shared}(I:Inv X pins σ H s):∀ m:Option Nat,Inv (X.hid m) pins (hidS m σ) H s
 |none=>I
 |some j=>I.nm (by show (σ.set j none).length=(X.N.set j "").length; rw[List.length_set,List.length_set]; exact I.len) fun i x v e1 e2=>by
  have e1:(X.N.set j "")[i]?=some x:=e1
  have e2:(σ.set j none)[i]?=some (some v):=e2
  by_cases z:j=i
  ·subst z
   by_cases q:j<σ.length
   ·rw[List.getElem?_set_self q] at e2; cases e2
   ·rw[List.getElem?_eq_none (by rw[List.length_set]; lia)] at e2; cases e2
  ·rw[List.getElem?_set_ne z] at e1 e2
   exact⟨e1,e2⟩
def tTail (k:Nat)(g:TG)(tt:TT)(te:TE)(σ:St)(Q:VK)(J:It)(H1:Hp):Prop:=∃ W:Nat→Nat→List V→Hp→Prop,(∃ m,W 0 m [] H1) ∧
 ∀ i m ys H,W i m ys H→ys.length≤sizeLine∧((J.stop i H∧∀ D,H D=none→Q (.ref D) (upd H D (.lst ys)))∨(J.go i H∧∀ x H',J.yld i H x H'→g x (List.replicate k none++σ) H' fun σ2 H2=>(σ2.length=k+σ.length∧σ2.drop k=σ) ∧
   tt σ2 H2 fun c H3=>if c=true then te σ2 H3 fun y H4=>∃ m',m'<m∧W (i+1) m' (ys++[y]) H4 else ∃ m',m'<m∧W (i+1) m' ys H3))
def tComp (k:Nat)(wi:TI)(g:TG)(tt:TT)(te:TE):TE:=fun σ H Q=>wi σ H (tTail k g tt te σ Q)
def tCompH (m:Option Nat)(k:Nat)(wi:TI)(g:TG)(tt:TT)(te:TE):TE:=fun σ H Q=>wi σ H (tTail k g tt te (hidS m σ) Q)
theorem CompScope.cells {X:Cx}{ts:List Str}{scope:Scope}{env:Env}(S:CompScope X ts scope)(ok:X.Ok):∃ cl,closureFor scope X.env=pure cl∧CompCells X scope cl:=by
 obtain⟨cl,e,h1,h2⟩:=closure_ok ok.has scope S.free
 exact⟨cl,e,h1,fun x hx=>h2 _ (PySem.mem_of_lookup hx) rfl⟩
theorem pe_compH {X:Cx}{m:Option Nat}{ts:List Str}{scope:Scope}{elt tg iter:Expr}{ifs:List Expr}{pos:Pos}{wi:TI}{g:TG}{tt:TT}{te:TE}(hc:X.calm=true)(S:CompScope (X.hid m) ts scope)(hi:PI X tg iter wi)
  (hg:∀ cl s₂ H1 C fp,PG (cxC (X.hid m) ts scope cl s₂ H1 C fp) tg g) (ht:∀ cl s₂ H1 C fp,PIf (cxC (X.hid m) ts scope cl s₂ H1 C fp) ifs tt) (he:∀ cl s₂ H1 C fp,PE (cxC (X.hid m) ts scope cl s₂ H1 C fp) elt te)
  (hs:∀ x,foldedSetIterable iter X.env x=pure x:=by intro _; rfl) :
  PE X (.ListComp elt [⟨tg,iter,ifs,0⟩] scope pos) (tCompH m ts.length wi g tt te):=by
 intro pins s σ H Q I h
 rw[eval_ListComp]
 obtain⟨cl,hcl,L⟩:=S.cells (env:=X.env) (I.hid m).ok
 refine wpAny_comprehension_free (use:=none) rfl hs hcl S.kind S.names (wpAny_mono (hi pins s σ H _ I h) (fun v s1 h1=>wpAny_mono h1 (fun itv s2 h2=>?_) fun _ _ e=>e) fun _ _ e=>e)
 obtain⟨it,fp,tn,J,H1,rfl,I2,T,st,hf,W,w0,turn⟩:=h2
 refine comp_block (Fin:=fun ys H=>∀ D,H D=none→Q (.ref D) (upd H D (.lst ys))) (RR:=fun acc C=>compPost (model X.prog X.w) X.A X.xe none (EP X pins σ Q) acc C) (X:=X.hid m) (I2.hid m) hc T st hf S L (fun C=>hg cl s2 H1 C fp) (fun C=>ht cl s2 H1 C fp) (fun C=>he cl s2 H1 C fp) W w0 turn ?_
 intro C D s' H' ys its k σ' m' hD hC hDC Ic hn hgD rv hz nD fin
 refine⟨m',hn,fun h' hs'=>?_⟩
 have IX:=back_ok (ts:=ts) (scope:=scope) (cl:=cl) I2 hf hC (Ic.nm (N':=ts++X.N) (σ':=List.replicate (ts++X.N).length none) (by rw[List.length_replicate]) fun i x v _ e=>by rw[List.getElem?_replicate] at e; split at e <;> cases e) hs'
 have gD:h'.get? D=some (lstO its k):=(hs'.2 D hDC).trans hgD
 obtain⟨f0,f1,f2,f3,f4,f5⟩:=I2.fpOk (b:=D) (H':=H') hD nD
 refine⟨.ref D,_,IX.track (o:=.lst ys) nD (Nat.le_trans I2.sz hD) f1 f4 f5 ⟨hz,its,k,rv,gD⟩,rfl,fin D nD⟩
theorem pe_comp {X:Cx}{ts:List Str}{scope:Scope}{elt tg iter:Expr}{ifs:List Expr}{pos:Pos}{wi:TI}{g:TG}{tt:TT}{te:TE}(hc:X.calm=true)(S:CompScope X ts scope)(hi:PI X tg iter wi)
  (hg:∀ cl s₂ H1 C fp,PG (cxC X ts scope cl s₂ H1 C fp) tg g) (ht:∀ cl s₂ H1 C fp,PIf (cxC X ts scope cl s₂ H1 C fp) ifs tt) (he:∀ cl s₂ H1 C fp,PE (cxC X ts scope cl s₂ H1 C fp) elt te)
  (hs:∀ x,foldedSetIterable iter X.env x=pure x:=by intro _; rfl) :
  PE X (.ListComp elt [⟨tg,iter,ifs,0⟩] scope pos) (tComp ts.length wi g tt te):=pe_compH (m:=none) hc S hi hg ht he hs
theorem ps_comp {X:Cx}{ts:List Str}{scope:Scope}{elt tg iter:Expr}{ifs:List Expr}{pos spos py:Pos}{wi:TI}{g:TG}{tt:TT}{te:TE}{i:Nat}{y:Str}(hN:X.N.Nodup)(hi':X.N[i]?=some y)(hx:Loc X.env.scope y)(hc:X.calm=true)(S:CompScope X ts scope)(hi:PI X tg iter wi)
  (hg:∀ cl s₂ H1 C fp,PG (cxC X ts scope cl s₂ H1 C fp) tg g) (ht:∀ cl s₂ H1 C fp,PIf (cxC X ts scope cl s₂ H1 C fp) ifs tt) (he:∀ cl s₂ H1 C fp,PE (cxC X ts scope cl s₂ H1 C fp) elt te)
  (hsw:swapsWith (.ListComp elt [⟨tg,iter,ifs,0⟩] scope pos) (some (.Name y py)) spos.line X.env=pure true:=by rfl)
  (hf':X.fn y=true∨X.env.scope.names.lookup y=some .local:=by first | exact .inl rfl | exact .inr rfl | assumption)
  (hs:∀ x,foldedSetIterable iter X.env x=pure x:=by intro _; rfl) :
  PS X (.Assign [.Name y py] (.ListComp elt [⟨tg,iter,ifs,0⟩] scope pos) spos) (tAsg (tComp ts.length wi g tt te) (gName i)):=by
 intro pins s σ H D0 I h
 rw[exec_Assign_Name_used _ _ _ _ hsw]
 refine wpAny_bind (wpAny_standAt (wpAny_bind ?_))
 show wpAny _ X.A (do let _ ← comprehension (.ListComp elt [⟨tg,iter,ifs,0⟩] scope pos) scope X.env _ (newList []) false (eval iter X.env) (some (assign (.Name y py) X.env))) _ _ s
 obtain⟨cl,hcl,L⟩:=S.cells (env:=X.env) I.ok
 refine wpAny_bind (wpAny_mono (wpAny_comprehension_free (use:=some (assign (.Name y py) X.env)) (Q:=fun _ s'=>SP X pins D0 .next s') rfl hs hcl S.kind S.names
  (wpAny_mono (hi pins s σ H _ I h) (fun v s1 h1=>wpAny_mono h1 (fun itv s2 h2=>?_) fun _ _ e=>e) fun _ _ e=>e)) (fun _ s' hq=>wpAny_pure (wpAny_pure hq)) fun _ _ e=>e)
 obtain⟨it,fp,tn,J,H1,rfl,I2,T,st,hf,W,w0,turn⟩:=h2
 refine comp_block (Fin:=fun ys H=>∀ D,H D=none→gName i (.ref D) σ (upd H D (.lst ys)) D0.nx) (RR:=fun acc C=>compPost (model X.prog X.w) X.A X.xe (some (assign (.Name y py) X.env)) (fun _ s'=>SP X pins D0 .next s') acc C) I2 hc T st hf S L (fun C=>hg cl s2 H1 C fp) (fun C=>ht cl s2 H1 C fp) (fun C=>he cl s2 H1 C fp) W w0 turn ?_
 intro C D s' H' ys its k σ' m' hD hC hDC Ic hn hgD rv hz nD fin
 have IX:Inv X pins σ H' s':=back_ok I2 hf hC Ic (Heap.SameBut.refl ..)
 obtain⟨f0,f1,f2,f3,f4,f5⟩:=I2.fpOk (b:=D) (H':=H') hD nD
 have IT:Inv X pins σ (upd H' D (.lst ys)) s':=IX.track (o:=.lst ys) nD (Nat.le_trans I2.sz hD) f1 f4 f5 ⟨hz,its,k,rv,hgD⟩
 show wpAny _ X.A (assign (.Name y py) X.env (.ref D)) _ _ s'
 refine wpAny_assign_Name (store_ok2 IT hN hi' hx (v:=.ref D) rfl (fun s'' I'' hh=>?_) hf')
 obtain⟨a,hsa,ha⟩:=hh
 have hCa:C≠a:=by
  rintro rfl
  rcases ha with z | z
  ·exact absurd (Nat.lt_of_lt_of_le (z ▸ I2.lt) hC) (Nat.lt_irrefl _)
  ·obtain⟨v,q⟩:=I2.cell _ _ z
   exact absurd (Nat.lt_of_lt_of_le q.lt hC) (Nat.lt_irrefl _)
 refine⟨m',hn.sameBut hsa hCa,fun h' hs'=>?_⟩
 have fin':=fin D nD
 refine⟨σ.set i (some (.ref D)),upd H' D (.lst ys),?_,fin'⟩
 have nC:H' C=none:=Ic.free
 have nCt:upd H' D (.lst ys) C=none:=by rw[upd_ne (Ne.symm hDC)]; exact nC
 obtain⟨_,g1,g2,g3,g4,g5⟩:=I2.fpOk (b:=C) (H':=H') hC nC
 exact I''.turned (t':=s''.toks) (fun b o hb e=>(hs'.2 b hb).trans e) nCt g1 (.inr (Nat.le_trans I2.sz hC)) g4 g5
inductive Th where
 |non | bl (b:Bool) | int (i:Int) | str (x:Str) | tup (ts:List Th) | lst (ts:List Th)
mutual
inductive Bears (K:PySem.W.Frag) (H:Hp):V→Th→Prop where
 |non:Bears K H .non .non
 |bl (b:Bool):Bears K H (.bl b) (.bl b)
 |int (i:Int):Bears K H (.int i) (.int i)
 |str (x:Str):Bears K H (.str x) (.str x)
 |tup {a:Addr} {xs:List V} {ts:List Th} (e:SqT K H a xs) (h:BearsL K H xs ts):Bears K H (.ref a) (.tup ts)
 |lst {a:Addr} {xs:List V} {ts:List Th} (e:SqL K H a xs) (h:BearsL K H xs ts):Bears K H (.ref a) (.lst ts)
inductive BearsL (K:PySem.W.Frag) (H:Hp):List V→List Th→Prop where
 |nil:BearsL K H [] []
 |cons {v:V} {t:Th} {vs:List V} {ts:List Th} (h:Bears K H v t) (r:BearsL K H vs ts):BearsL K H (v::vs) (t::ts)
end
theorem Same.seqT {K:PySem.W.Frag}{H H':Hp}{a:Addr}{xs:List V}(e:Same H H')(h:SqT K H a xs):SqT K H' a xs:=by
 rcases h with (h | ⟨o,h⟩) | h
 ·exact .inl (.inl (e _ _ h))
 ·exact .inl (.inr ⟨o,e _ _ h⟩)
 ·exact .inr h
section
variable {K:PySem.W.Frag}
mutual
theorem Bears.mono {H H':Hp}(s:Same H H'):∀ {v:V} {t:Th},Bears K H v t→Bears K H' v t
 |_,_,.non=>.non
 |_,_,.bl b=>.bl b
 |_,_,.int i=>.int i
 |_,_,.str x=>.str x
 |_,_,.tup e h=>.tup (s.seqT e) (BearsL.mono s h)
 |_,_,.lst e h=>.lst (s.seq e) (BearsL.mono s h)
theorem BearsL.mono {H H':Hp}(s:Same H H'):∀ {vs:List V} {ts:List Th},BearsL K H vs ts→BearsL K H' vs ts
 |_,_,.nil=>.nil
 |_,_,.cons h r=>.cons (Bears.mono s h) (BearsL.mono s r)
end
theorem BearsL.length {H:Hp}:∀ {vs:List V} {ts:List Th},BearsL K H vs ts→vs.length=ts.length
 |_,_,.nil=>rfl
 |_,_,.cons _ r=>by rw[List.length_cons,List.length_cons,r.length]
theorem BearsL.get {H:Hp}:∀ {vs:List V} {ts:List Th} {i:Nat} {t:Th},BearsL K H vs ts→ts[i]?=some t→∃ v,vs[i]?=some v∧Bears K H v t
 |_,_,_,_,.nil,e=>by simp at e
 |_,_,0,_,.cons h _,e=>by simp at e; subst e; exact⟨_,rfl,h⟩
 |_,_,i+1,_,.cons _ r,e=>by
  obtain⟨v,h1,h2⟩:=r.get (i:=i) (by simpa using e)
  exact⟨v,by simpa using h1,h2⟩
theorem BearsL.got {H:Hp}:∀ {vs:List V} {ts:List Th} {i:Nat} {v:V},BearsL K H vs ts→vs[i]?=some v→∃ t,ts[i]?=some t∧Bears K H v t
 |_,_,_,_,.nil,e=>by simp at e
 |_,_,0,_,.cons h _,e=>by simp at e; subst e; exact⟨_,rfl,h⟩
 |_,_,i+1,_,.cons _ r,e=>by
  obtain⟨v,h1,h2⟩:=r.got (i:=i) (by simpa using e)
  exact⟨v,by simpa using h1,h2⟩
theorem BearsL.append {H:Hp}:∀ {vs ws:List V} {ts us:List Th},BearsL K H vs ts→BearsL K H ws us→BearsL K H (vs++ws) (ts++us)
 |_,_,_,_,.nil,s=>s
 |_,_,_,_,.cons h r,s=>.cons h (r.append s)
theorem BearsL.take {H:Hp}:∀ {vs:List V} {ts:List Th} (n:Nat),BearsL K H vs ts→BearsL K H (vs.take n) (ts.take n)
 |_,_,0,_=>.nil
 |_,_,_+1,.nil=>.nil
 |_,_,n+1,.cons h r=>.cons h (r.take n)
theorem BearsL.drop {H:Hp}:∀ {vs:List V} {ts:List Th} (n:Nat),BearsL K H vs ts→BearsL K H (vs.drop n) (ts.drop n)
 |_,_,0,r=>r
 |_,_,_+1,.nil=>.nil
 |_,_,n+1,.cons _ r=>r.drop n
theorem BearsL.rep {H:Hp}{vs:List V}{ts:List Th}(h:BearsL K H vs ts):∀ k:Nat,BearsL K H (List.replicate k vs).flatten (List.replicate k ts).flatten
 |0=>.nil
 |k+1=>by rw[List.replicate_succ,List.replicate_succ,List.flatten_cons,List.flatten_cons]; exact h.append (h.rep k)
end
theorem Same.upd {H:Hp}{p:Addr}{o:HO}(h:H p=none):Same H (upd H p o):=fun b u e=>by rw[upd_ne (ne_of_none e h)]; exact e
structure Hid where
 own:List (Nat×Addr)
 far:Addr→Prop
def Hid.has (O:Hid)(b:Addr):Prop:=b∈O.own.map (·.2)∨O.far b
def Hid.cons (i:Nat)(a:Addr)(O:Hid):Hid:={ O with own:=(i,a)::O.own }
open Classical in
noncomputable def less (H:Hp)(O:Hid):Hp:=fun b=>if O.has b then none else H b
open Classical in
noncomputable def low (H:Hp)(O:Hid):Hp:=fun b=>if b∈O.own.map (·.2) then none else H b
theorem less_sub (H:Hp)(O:Hid):Same (less H O) H:=fun b o e=>by
 unfold less at e
 split at e
 ·cases e
 ·exact e
theorem low_sub (H:Hp)(O:Hid):Same (low H O) H:=fun b o e=>by
 unfold low at e
 split at e
 ·cases e
 ·exact e
theorem less_of {H:Hp}{O:Hid}{b:Addr}{o:HO}(h:H b=some o)(n:¬ O.has b):less H O b=some o:=by
 unfold less; rw[if_neg n]; exact h
theorem low_of {H:Hp}{O:Hid}{b:Addr}{o:HO}(h:H b=some o)(n:b∉O.own.map (·.2)):low H O b=some o:=by
 unfold low; rw[if_neg n]; exact h
theorem of_less {H:Hp}{O:Hid}{b:Addr}{o:HO}(h:less H O b=some o):H b=some o∧¬ O.has b:=by
 unfold less at h
 split at h
 ·cases h
 ·exact⟨h,‹_›⟩
theorem of_low {H:Hp}{O:Hid}{b:Addr}{o:HO}(h:low H O b=some o):H b=some o∧b∉O.own.map (·.2):=by
 unfold low at h
 split at h
 ·cases h
 ·exact⟨h,‹_›⟩
theorem less_mono {H H':Hp}{O:Hid}(s:Same H H'):Same (less H O) (less H' O):=fun b o e=>let ⟨h,n⟩:=of_less e; less_of (s b o h) n
theorem low_mono {H H':Hp}{O:Hid}(s:Same H H'):Same (low H O) (low H' O):=fun b o e=>let ⟨h,n⟩:=of_low e; low_of (s b o h) n
theorem low_less {H H':Hp}{O O':Hid}(s:Same (low H O) (low H' O'))(hf:O'.far=O.far):Same (less H O) (less H' O'):=fun b o e=>by
 obtain⟨h,n⟩:=of_less e
 obtain⟨h',n'⟩:=of_low (s b o (low_of h fun z=>n (.inl z)))
 exact less_of h' fun z=>z.elim n' fun z=>n (.inr (hf ▸ z))
theorem less_cons_sub {H:Hp}{O:Hid}{i:Nat}{a:Addr}:Same (less H (O.cons i a)) (less H O):=fun b o e=>by
 obtain⟨h,n⟩:=of_less e
 exact less_of h fun z=>n (z.elim (fun z=>.inl (List.mem_cons_of_mem _ z)) .inr)
theorem less_cons_any {H:Hp}{O:Hid}{i j:Nat}{a:Addr}:less H (O.cons i a)=less H (O.cons j a):=by
 have hh:∀ b,(O.cons i a).has b↔(O.cons j a).has b:=fun b=>Iff.rfl
 funext b
 unfold less
 by_cases z:(O.cons i a).has b
 ·rw[if_pos z,if_pos ((hh b).mp z)]
 ·rw[if_neg z,if_neg (fun q=>z ((hh b).mpr q))]
theorem has_cons {O:Hid}{i:Nat}{a b:Addr}(h:(O.cons i a).has b):b=a∨O.has b:=by
 rcases h with h | h
 ·rcases List.mem_cons.mp (show b∈a::O.own.map (·.2) from h) with q | q
  ·exact .inl q
  ·exact .inr (.inl q)
 ·exact .inr (.inr h)
theorem less_new {H H':Hp}{O:Hid}{i:Nat}{a:Addr}(s:Same H H')(h:H a=none):Same (less H O) (less H' (O.cons i a)):=fun b o e=>by
 obtain⟨hb,n⟩:=of_less e
 exact less_of (s b o hb) fun z=>(has_cons z).elim (ne_of_none hb h) n
theorem low_new {H H':Hp}{O:Hid}{i:Nat}{a:Addr}(s:Same H H')(h:H a=none):Same (low H O) (low H' (O.cons i a)):=fun b o e=>by
 obtain⟨hb,n⟩:=of_low e
 refine low_of (s b o hb) fun z=>?_
 rcases List.mem_cons.mp (show b∈a::O.own.map (·.2) from z) with q | q
 ·exact ne_of_none hb h q
 ·exact n q
inductive Dv where
 |th (T:Th)
 |own (ts:List Th)
 |exc (c:Str)
 |dct (fz:Bool) (kvs:List (Str×Th))
def fv:Th→V
 |.bl b=>.bl b
 |.int i=>.int i
 |.str x=>.str x
 |_=>.non
def dkv (kvs:List (Str×Th)):List (Key×V):=kvs.map fun p=>(Sum.inr p.1,fv p.2)
def DctAt (H:Hp)(a:Addr):Bool→List (Str×Th)→Prop
 |false,kvs=>H a=some (.dK (dkv kvs))
 |true,kvs=>∃ o,H a=some (.frz o (.dK (dkv kvs)))
def excAt (a C:Addr)(h:Heap):Prop:=∃ oe,h.get? a=some oe∧oe.cls=.ref C
abbrev Sd:=List (Option Dv)
structure Rep (K:PySem.W.Frag)(H:Hp)(O:Hid)(σ:St)(d:Sd):Prop where
 len:d.length=σ.length
 th:∀ (i:Nat) (T:Th),d[i]?=some (some (.th T))→∃ v,σ[i]?=some (some v)∧Bears K (less H O) v T
 own:∀ (i:Nat) (ts:List Th),d[i]?=some (some (.own ts))→∃ a xs,(i,a)∈O.own∧σ[i]?=some (some (.ref a))∧H a=some (.lst xs)∧¬ O.far a∧BearsL K (less H O) xs ts
 there:∀ a,O.has a→∃ o,H a=some o
 inj:∀ (i j:Nat) (a:Addr),(i,a)∈O.own→(j,a)∈O.own→i=j
 exc:∀ (i:Nat) (c:Str),d[i]?=some (some (.exc c))→∃ a C,σ[i]?=some (some (.ref a))∧PySem.W.nsIn K mainGlobals c=some (some (.ref C))∧less H O a=some (.ext (excAt a C))
 dct:∀ (i:Nat) (fz:Bool) (kvs:List (Str×Th)),d[i]?=some (some (.dct fz kvs))→∃ a,(i,a)∈O.own∧σ[i]?=some (some (.ref a))∧DctAt H a fz kvs∧¬ O.far a
section
variable {K:PySem.W.Frag}
theorem DctAt.mono {H H':Hp}{a:Addr}{kvs:List (Str×Th)}:∀ {fz:Bool},DctAt H a fz kvs→(∀ o,H a=some o→H' a=some o)→DctAt H' a fz kvs
 |false,h,s=>s _ h
 |true,⟨o,h⟩,s=>⟨o,s _ h⟩
theorem Rep.mono {H H':Hp}{O:Hid}{σ:St}{d:Sd}(r:Rep K H O σ d)(s:Same H H'):Rep K H' O σ d where
 len:=r.len
 th:=fun i T e=>let ⟨v,h1,h2⟩:=r.th i T e; ⟨v,h1,h2.mono (less_mono s)⟩
 own:=fun i ts e=>let ⟨a,xs,h1,h2,h3,hf,h4⟩:=r.own i ts e; ⟨a,xs,h1,h2,s _ _ h3,hf,h4.mono (less_mono s)⟩
 there:=fun a h=>let ⟨o,e⟩:=r.there a h; ⟨o,s _ _ e⟩
 inj:=r.inj
 exc:=fun i c e=>let ⟨a,C,h1,h2,h3⟩:=r.exc i c e; ⟨a,C,h1,h2,less_mono s _ _ h3⟩
 dct:=fun i fz kvs e=>let ⟨a,h1,h2,h3,h4⟩:=r.dct i fz kvs e; ⟨a,h1,h2,h3.mono (s a),h4⟩
theorem Rep.notOwn {H:Hp}{O:Hid}{σ:St}{d:Sd}(r:Rep K H O σ d){a:Addr}(h:H a=none):¬ O.has a:=fun z=>by
 obtain⟨o,ho⟩:=r.there a z
 rw[h] at ho; cases ho
theorem Rep.set {H:Hp}{O:Hid}{σ:St}{d:Sd}(r:Rep K H O σ d)(i:Nat){v:V}{T:Th}(b:Bears K (less H O) v T):Rep K H O (σ.set i (some v)) (d.set i (some (.th T))) where
 len:=by rw[List.length_set,List.length_set]; exact r.len
 th:=fun j U e=>by
  by_cases hj:i=j
  ·subst hj
   have hi:i<d.length:=by
    have:=(List.getElem?_eq_some_iff.mp e).1
    simpa using this
   rw[List.getElem?_set_self hi] at e
   cases e
   exact⟨v,List.getElem?_set_self (by rw[← r.len]; exact hi),b⟩
  ·rw[List.getElem?_set_ne hj] at e
   obtain⟨w,h1,h2⟩:=r.th j U e
   exact⟨w,by rw[List.getElem?_set_ne hj]; exact h1,h2⟩
 own:=fun j ts e=>by
  by_cases hj:i=j
  ·subst hj
   have hi:i<d.length:=by
    have:=(List.getElem?_eq_some_iff.mp e).1
    simpa using this
   rw[List.getElem?_set_self hi] at e
   cases e
  ·rw[List.getElem?_set_ne hj] at e
   obtain⟨a,xs,h1,h2,h3⟩:=r.own j ts e
   exact⟨a,xs,h1,by rw[List.getElem?_set_ne hj]; exact h2,h3⟩
 there:=r.there
 inj:=r.inj
 exc:=fun j c e=>by
  by_cases hj:i=j
  ·subst hj
   have hi:i<d.length:=by
    have:=(List.getElem?_eq_some_iff.mp e).1
    simpa using this
   rw[List.getElem?_set_self hi] at e
   cases e
  ·rw[List.getElem?_set_ne hj] at e
   obtain⟨a,C,h1,h2⟩:=r.exc j c e
   exact⟨a,C,by rw[List.getElem?_set_ne hj]; exact h1,h2⟩
 dct:=fun j fz kvs e=>by
  by_cases hj:i=j
  ·subst hj
   rw[List.getElem?_set_self (by simpa using (List.getElem?_eq_some_iff.mp e).1)] at e
   cases e
  ·rw[List.getElem?_set_ne hj] at e
   obtain⟨a,h1,h2,h3⟩:=r.dct j fz kvs e
   exact⟨a,h1,by rw[List.getElem?_set_ne hj]; exact h2,h3⟩
end
def Lent (K:PySem.W.Frag)(H:Hp)(O:Hid)(v:V)(T:Th):Prop:=Bears K (less H O) v T∨∃ a xs ts,v=.ref a∧T=.lst ts∧H a=some (.lst xs)∧¬ O.far a∧BearsL K (less H O) xs ts
def Fresh (K:PySem.W.Frag)(H H':Hp)(O:Hid)(v:V)(ts:List Th):Prop:=∃ a xs,v=.ref a∧H a=none∧H' a=some (.lst xs)∧BearsL K (less H' (O.cons 0 a)) xs ts
section
variable {K:PySem.W.Frag}
theorem Lent.mono {H H':Hp}{O:Hid}{v:V}{T:Th}(h:Lent K H O v T)(s:Same H H'):Lent K H' O v T:=by
 rcases h with h | ⟨a,xs,ts,e1,e2,e3,hf,h⟩
 ·exact .inl (h.mono (less_mono s))
 ·exact .inr ⟨a,xs,ts,e1,e2,s _ _ e3,hf,h.mono (less_mono s)⟩
theorem Lent.bears {H:Hp}{O:Hid}{v:V}{T:Th}(h:Lent K H O v T):Bears K H v T:=by
 rcases h with h | ⟨a,xs,ts,rfl,rfl,e3,hf,h⟩
 ·exact h.mono (less_sub H O)
 ·exact .lst (SqL.of e3) (h.mono (less_sub H O))
theorem Lent.int {H:Hp}{O:Hid}{v:V}{i:Int}(h:Lent K H O v (.int i)):v=.int i:=by
 rcases h with h | ⟨_,_,_,_,e,_⟩
 ·cases h; rfl
 ·cases e
theorem Lent.bl {H:Hp}{O:Hid}{v:V}{i:Bool}(h:Lent K H O v (.bl i)):v=.bl i:=by
 rcases h with h | ⟨_,_,_,_,e,_⟩
 ·cases h; rfl
 ·cases e
theorem Lent.str {H:Hp}{O:Hid}{v:V}{i:Str}(h:Lent K H O v (.str i)):v=.str i:=by
 rcases h with h | ⟨_,_,_,_,e,_⟩
 ·cases h; rfl
 ·cases e
theorem Lent.non {H:Hp}{O:Hid}{v:V}(h:Lent K H O v .non):v=.non:=by
 rcases h with h | ⟨_,_,_,_,e,_⟩
 ·cases h; rfl
 ·cases e
theorem Lent.tup {H:Hp}{O:Hid}{v:V}{ts:List Th}(h:Lent K H O v (.tup ts)):∃ a xs,v=.ref a∧SqT K (less H O) a xs∧BearsL K (less H O) xs ts:=by
 rcases h with h | ⟨_,_,_,_,e,_⟩
 ·cases h with | tup e h=>exact⟨_,_,rfl,e,h⟩
 ·cases e
theorem Lent.lst {H:Hp}{O:Hid}{v:V}{ts:List Th}(h:Lent K H O v (.lst ts)):∃ a xs,v=.ref a∧SqL K H a xs∧BearsL K (less H O) xs ts:=by
 rcases h with h | ⟨a,xs,us,rfl,e,e3,hf,h⟩
 ·cases h with | lst e h=>exact⟨_,_,rfl,(less_sub H O).seq e,h⟩
 ·cases e; exact⟨a,xs,rfl,SqL.of e3,h⟩
end
abbrev FD:=Sd→Option Th
abbrev FL:=Sd→Option (List Th)
abbrev FB:=Sd→Option Bool
def liftD (K:PySem.W.Frag)(f:FD):TE:=fun σ H Q=>∃ O d T,Rep K H O σ d∧f d=some T∧∀ v H',Same H H'→Bears K (less H' O) v T→Q v H'
def liftB (K:PySem.W.Frag)(f:FD):TE:=fun σ H Q=>∃ O d T,Rep K H O σ d∧f d=some T∧∀ v H',Same H H'→Lent K H' O v T→Q v H'
def liftF (K:PySem.W.Frag)(f:FL):TE:=fun σ H Q=>∃ O d T,Rep K H O σ d∧f d=some T∧∀ v H',Same H H'→Fresh K H H' O v T→Q v H'
def liftT (K:PySem.W.Frag)(f:FB):TT:=fun σ H Q=>∃ O d b,Rep K H O σ d∧f d=some b∧∀ H',Same H H'→Q b H'
def liftA (K:PySem.W.Frag)(f:FL):TA:=fun σ H Q=>∃ O d T,Rep K H O σ d∧f d=some T∧∀ vs H',Same H H'→BearsL K (less H' O) vs T→Q vs H'
def liftAB (K:PySem.W.Frag)(f:FL):TA:=fun σ H Q=>∃ O d T,Rep K H O σ d∧f d=some T∧∀ vs H',Same H H'→Paired (Lent K H' O) vs T→Q vs H'
def PD (X:Cx)(e:Expr)(f:FD):Prop:=PE X e (liftD X.K f)
def PB (X:Cx)(e:Expr)(f:FD):Prop:=PE X e (liftB X.K f)
def PF (X:Cx)(e:Expr)(f:FL):Prop:=PE X e (liftF X.K f)
def PDT (X:Cx)(e:Expr)(f:FB):Prop:=PT X e (liftT X.K f)
def PDW (X:Cx)(e:Expr)(f:FB):Prop:=PW X e (liftT X.K f)
def PDA (X:Cx)(es:List Expr)(f:FL):Prop:=PA X es (liftA X.K f)
def PBA (X:Cx)(es:List Expr)(f:FL):Prop:=PA X es (liftAB X.K f)
section
variable {X:Cx}{e a b c:Expr}{f fa fb fc:FD}{pos:Pos}
theorem PE.imp {t t':TE}(h:PE X e t)(i:∀ σ H Q,t' σ H Q→t σ H Q):PE X e t':=fun pins s σ H Q I q=>h pins s σ H Q I (i σ H Q q)
theorem PT.imp {t t':TT}(h:PT X e t)(i:∀ σ H Q,t' σ H Q→t σ H Q):PT X e t':=fun pins s σ H Q I q=>h pins s σ H Q I (i σ H Q q)
theorem PW.imp {t t':TT}(h:PW X e t)(i:∀ σ H Q,t' σ H Q→t σ H Q):PW X e t':=fun wh pins s σ H Q I q=>h wh pins s σ H Q I (i σ H Q q)
theorem PA.imp {es:List Expr}{t t':TA}(h:PA X es t)(i:∀ σ H Q,t' σ H Q→t σ H Q):PA X es t':=fun ps pins s σ H Q I q=>h ps pins s σ H Q I (i σ H Q q)
theorem PD.pb (h:PD X e f):PB X e f:=PE.imp h fun σ H Q ⟨O,d,T,r,e,q⟩=>⟨O,d,T,r,e,fun v H' s b=>q v H' s (.inl b)⟩
def fLst (f:FL):FD:=fun d=>(f d).map Th.lst
theorem PF.pd {f:FL}(h:PF X e f):PD X e (fLst f):=PE.imp h fun σ H Q ⟨O,d,T,r,e,q⟩=>by
 unfold fLst at e
 cases hf:f d with
 |none=>rw[hf] at e; cases e
 |some ts =>
  rw[hf] at e
  cases e
  refine⟨O,d,ts,r,hf,fun v H' s ⟨a,xs,e1,e2,e3,b⟩=>q v H' s ?_⟩
  subst e1
  exact .lst (SqL.of (less_of e3 (r.notOwn e2))) (b.mono less_cons_sub)
def fVar (i:Nat):FD:=fun d=>match d[i]? with | some (some (.th T))=>some T | _=>none
def fVarB (i:Nat):FD:=fun d=>match d[i]? with | some (some (.th T))=>some T | some (some (.own ts))=>some (.lst ts) | _=>none
def fC (T:Th):FD:=fun _=>some T
theorem pd_var {i:Nat}{x:Str}(h:PE X (.Name x pos) (tVar i)):PD X (.Name x pos) (fVar i):=PE.imp h fun σ H Q ⟨O,d,T,r,e,q⟩=>by
 unfold fVar at e
 split at e
 ·rename_i hd
  cases e
  obtain⟨v,h1,h2⟩:=r.th i _ hd
  exact⟨v,h1,q v H (Same.refl H) h2⟩
 ·cases e
theorem pb_var {i:Nat}{x:Str}(h:PE X (.Name x pos) (tVar i)):PB X (.Name x pos) (fVarB i):=PE.imp h fun σ H Q ⟨O,d,T,r,e,q⟩=>by
 unfold fVarB at e
 split at e
 ·rename_i hd
  cases e
  obtain⟨v,h1,h2⟩:=r.th i _ hd
  exact⟨v,h1,q v H (Same.refl H) (.inl h2)⟩
 ·rename_i hd
  cases e
  obtain⟨a,xs,h1,h2,h3,hf,h4⟩:=r.own i _ hd
  exact⟨_,h2,q _ H (Same.refl H) (.inr ⟨a,xs,_,rfl,rfl,h3,hf,h4⟩)⟩
 ·cases e
theorem pd_const {v:V}{T:Th}(h:PE X e (tC v))(b:∀ H,Bears X.K H v T):PD X e (fC T):=PE.imp h fun σ H Q ⟨O,d,T',r,e,q⟩=>by
 cases e
 exact q v H (Same.refl H) (b _)
theorem pd_int {i j}:PD X (.Constant (.int i) j pos) (fC (.int i)):=pd_const pe_int fun _=>.int i
theorem pd_bl {i j}:PD X (.Constant (.bool i) j pos) (fC (.bl i)):=pd_const pe_bl fun _=>.bl i
theorem pd_non {j}:PD X (.Constant .none j pos) (fC .non):=pd_const pe_non fun _=>.non
theorem pd_str {i j}:PD X (.Constant (.str i) j pos) (fC (.str i)):=pd_const pe_str fun _=>.str i
def f2 (g:Th→Th→Option Th)(fa fb:FD):FD:=fun d=>(fa d).bind fun x=>(fb d).bind fun y=>g x y
theorem f2_some {g:Th→Th→Option Th}{fa fb:FD}{d:Sd}{T:Th}(h:f2 g fa fb d=some T):∃ x y,fa d=some x∧fb d=some y∧g x y=some T:=by
 unfold f2 at h
 cases h1:fa d with
 |none=>rw[h1] at h; cases h
 |some x =>
  rw[h1] at h
  cases h2:fb d with
  |none=>rw[h2] at h; cases h
  |some y=>rw[h2] at h; exact⟨x,y,rfl,rfl,h⟩
def OpD (K:PySem.W.Frag)(r:R2)(g:Th→Th→Option Th):Prop:=∀ (H:Hp) (O:Hid) (v u:V) (x y z:Th) (Q:VK),(∀ p,H p=none→¬ O.has p)→Lent K H O v x→Lent K H O u y→g x y=some z→(∀ v' H',Same H H'→Bears K (less H' O) v' z→Q v' H')→r v u H Q
theorem tOp_lift {K:PySem.W.Frag}{r:R2}{g:Th→Th→Option Th}(hr:OpD K r g):∀ σ H Q,liftD K (f2 g fa fb) σ H Q→tOp r (liftB K fa) (liftB K fb) σ H Q:=fun σ H Q ⟨O,d,T,R,e,q⟩=>by
 obtain⟨x,y,hx,hy,hg⟩:=f2_some e
 exact⟨O,d,x,R,hx,fun v1 H1 s1 b1=>⟨O,d,y,R.mono s1,hy,fun v2 H2 s2 b2=>hr H2 O v1 v2 x y T Q (fun p hp=>(R.mono (s1.trans s2)).notOwn hp) (b1.mono s2) b2 hg fun v H' s b=>q v H' ((s1.trans s2).trans s) b⟩⟩
theorem pd_op {op:Operator}{r:R2}{g:Th→Th→Option Th}(ho:OpR X (binaryOp op) r)(hr:OpD X.K r g)(ha:PB X a fa)(hb:PB X b fb):PD X (.BinOp a op b pos) (f2 g fa fb):=PE.imp (pe_op ho ha hb) (tOp_lift hr)
theorem pd_cmp {op:CmpOp}{r:R2}{g:Th→Th→Option Th}(ho:OpR X (compareOp op) r)(hr:OpD X.K r g)(ha:PB X a fa)(hb:PB X b fb)(hm:behindInMarks op b=false):PD X (.Compare a [op] [b] pos) (f2 g fa fb):=PE.imp (pe_cmpR ho ha hb hm) (tOp_lift hr)
def fTest (f:FD):FB:=fun d=>match f d with | some (.bl b)=>some b | _=>none
theorem fTest_some {f:FD}{d:Sd}{b:Bool}(h:fTest f d=some b):f d=some (.bl b):=by
 unfold fTest at h
 split at h
 ·rename_i e; cases h; exact e
 ·cases h
theorem pdt_cmp {op:CmpOp}{r:R2}{g:Th→Th→Option Th}(ho:OpR X (compareOp op) r)(hr:OpD X.K r g)(ha:PB X a fa)(hb:PB X b fb)(hm:behindInMarks op b=false):PDT X (.Compare a [op] [b] pos) (fTest (f2 g fa fb)) :=
 PT.imp (pt_cmpR ho ha hb hm) fun σ H Q ⟨O,d,k,R,e,q⟩=>tOp_lift hr σ H _ ⟨O,d,.bl k,R,fTest_some e,fun v H' s b=>by cases b; exact⟨k,rfl,q H' s⟩⟩
theorem pdt_val (h:PD X e f)(he:∀ whole,isTrue e X.env whole=(do let v ← whole; standAt e.pos; holding [v] (truthy v)):=by intro _; rfl):PDT X e (fTest f) :=
 PT.imp (pt_val h he) fun σ H Q ⟨O,d,k,R,e,q⟩=>⟨O,d,.bl k,R,fTest_some e,fun v H' s b=>by cases b; exact⟨k,rfl,q H' s⟩⟩
def fNot (f:FB):FB:=fun d=>(f d).map (!·)
theorem pdt_not {f:FB}(h:PDT X a f):PDT X (.UnaryOp .Not a pos) (fNot f):=PT.imp (pt_not h) fun σ H Q ⟨O,d,k,R,e,q⟩=>by
 unfold fNot at e
 cases hf:f d with
 |none=>rw[hf] at e; cases e
 |some z=>rw[hf] at e; cases e; exact⟨O,d,z,R,hf,q⟩
def fAndT (f g:FB):FB:=fun d=>(f d).bind fun b=>if b=true then g d else some false
def fOrT (f g:FB):FB:=fun d=>(f d).bind fun b=>if b=true then some true else g d
theorem pdw_and1 {f:FB}(h:PDT X a f):PDW X (.BoolOp .And [a] pos) f:=pw_and1 h
theorem pdw_or1 {f:FB}(h:PDT X a f):PDW X (.BoolOp .Or [a] pos) f:=pw_or1 h
theorem pdw_and {f g:FB}{rest:List Expr}(ha:PDT X a f)(hb:PDW X (.BoolOp .And (b::rest) pos) g):PDW X (.BoolOp .And (a::b::rest) pos) (fAndT f g):=PW.imp (pw_and ha hb) fun σ H Q ⟨O,d,k,R,e,q⟩=>by
 unfold fAndT at e
 cases hf:f d with
 |none=>rw[hf] at e; cases e
 |some z =>
  rw[hf] at e
  refine⟨O,d,z,R,hf,fun H' s=>?_⟩
  cases z with
  |true=>exact⟨O,d,k,R.mono s,e,fun H'' s'=>q H'' (s.trans s')⟩
  |false=>cases e; exact q H' s
theorem pdw_or {f g:FB}{rest:List Expr}(ha:PDT X a f)(hb:PDW X (.BoolOp .Or (b::rest) pos) g):PDW X (.BoolOp .Or (a::b::rest) pos) (fOrT f g):=PW.imp (pw_or ha hb) fun σ H Q ⟨O,d,k,R,e,q⟩=>by
 unfold fOrT at e
 cases hf:f d with
 |none=>rw[hf] at e; cases e
 |some z =>
  rw[hf] at e
  refine⟨O,d,z,R,hf,fun H' s=>?_⟩
  cases z with
  |true=>cases e; exact q H' s
  |false=>exact⟨O,d,k,R.mono s,e,fun H'' s'=>q H'' (s.trans s')⟩
theorem PDW.pdt {f:FB}(h:PDW X e f):PDT X e f:=PW.pt h
def fAnd (fa fb:FD):FD:=fun d=>(fa d).bind fun x=>match x with | .bl true=>fb d | .bl false=>some (.bl false) | _=>none
def fOr (fa fb:FD):FD:=fun d=>(fa d).bind fun x=>match x with | .bl true=>some (.bl true) | .bl false=>fb d | _=>none
def fNotV (fa:FD):FD:=fun d=>(fa d).bind fun x=>match x with | .bl b=>some (.bl !b) | _=>none
def fIf {α:Type}(c:FB)(f g:Sd→Option α):Sd→Option α:=fun d=>(c d).bind fun b=>if b=true then f d else g d
theorem pd_if {c:Expr}{fc:FB}(hc:PDT X c fc)(ha:PD X a fa)(hb:PD X b fb):PD X (.IfExp c a b pos) (fIf fc fa fb):=PE.imp (pe_ifExp hc ha hb) fun σ H Q ⟨O,d,T,R,e,q⟩=>by
 unfold fIf at e
 cases hf:fc d with
 |none=>rw[hf] at e; cases e
 |some z =>
  rw[hf] at e
  refine⟨O,d,z,R,hf,fun H' s=>?_⟩
  cases z with
  |true=>exact⟨O,d,T,R.mono s,e,fun v' H'' s' b'=>q v' H'' (s.trans s') b'⟩
  |false=>exact⟨O,d,T,R.mono s,e,fun v' H'' s' b'=>q v' H'' (s.trans s') b'⟩
def fChain (g g':Th→Th→Option Th)(fa fb fc:FD):FD:=fun d=>(fa d).bind fun x=>(fb d).bind fun y=>(g x y).bind fun z=>match z with | .bl true=>(fc d).bind fun u=>g' y u | .bl false=>some (.bl false) | _=>none
def fNil:FL:=fun _=>some []
def fCons (f:FD)(g:FL):FL:=fun d=>(f d).bind fun x=>(g d).bind fun xs=>some (x::xs)
theorem fCons_some {f:FD}{g:FL}{d:Sd}{ts:List Th}(h:fCons f g d=some ts):∃ x xs,f d=some x∧g d=some xs∧ts=x::xs:=by
 unfold fCons at h
 cases h1:f d with
 |none=>rw[h1] at h; cases h
 |some x =>
  rw[h1] at h
  cases h2:g d with
  |none=>rw[h2] at h; cases h
  |some y=>rw[h2] at h; cases h; exact⟨x,y,rfl,rfl,rfl⟩
theorem pda_nil:PDA X [] fNil:=PA.imp pa_nil fun σ H Q ⟨O,d,T,R,e,q⟩=>by cases e; exact q [] H (Same.refl H) .nil
theorem pda_cons {es:List Expr}{g:FL}(ha:PD X e f)(hr:PDA X es g)(hs:starEach (e::es) X.env=(false,eval e X.env)::starEach es X.env:=by rfl):PDA X (e::es) (fCons f g):=PA.imp (pa_cons ha hr hs) fun σ H Q ⟨O,d,T,R,e,q⟩=>by
 obtain⟨x,xs,h1,h2,rfl⟩:=fCons_some e
 exact⟨O,d,x,R,h1,fun v H1 s1 b1=>⟨O,d,xs,R.mono s1,h2,fun vs H2 s2 b2=>q (v::vs) H2 (s1.trans s2) (.cons (b1.mono (less_mono s2)) b2)⟩⟩
theorem pba_nil:PBA X [] fNil:=PA.imp pa_nil fun σ H Q ⟨O,d,T,R,e,q⟩=>by cases e; exact q [] H (Same.refl H) .nil
theorem pba_cons {es:List Expr}{g:FL}(ha:PB X e f)(hr:PBA X es g)(hs:starEach (e::es) X.env=(false,eval e X.env)::starEach es X.env:=by rfl):PBA X (e::es) (fCons f g):=PA.imp (pa_cons ha hr hs) fun σ H Q ⟨O,d,T,R,e,q⟩=>by
 obtain⟨x,xs,h1,h2,rfl⟩:=fCons_some e
 exact⟨O,d,x,R,h1,fun v H1 s1 b1=>⟨O,d,xs,R.mono s1,h2,fun vs H2 s2 b2=>q (v::vs) H2 (s1.trans s2) (.cons (b1.mono s2) b2)⟩⟩
def fitL (ts:List Th):Option (List Th):=if ts.length≤1000000 then some ts else none
theorem fitL_some {ts us:List Th}(h:fitL ts=some us):us=ts∧ts.length≤sizeLine:=by
 unfold fitL at h
 split at h
 ·cases h; exact⟨rfl,Nat.le_trans ‹_› (by decide)⟩
 ·cases h
def fTup (f:FL):FD:=fun d=>((f d).bind fitL).map Th.tup
def fList (f:FL):FL:=fun d=>(f d).bind fitL
theorem pd_tup {es:List Expr}{g:FL}{x1}(h:PDA X es g):PD X (.Tuple es x1 pos) (fTup g):=PE.imp (pe_tup h) fun σ H Q ⟨O,d,T,R,e,q⟩=>by
 unfold fTup at e
 cases hg:g d with
 |none=>rw[hg] at e; cases e
 |some ts =>
  rw[hg] at e
  cases hf:fitL ts with
  |none=>rw[show (some ts).bind fitL=fitL ts from rfl,hf] at e; cases e
  |some us =>
   rw[show (some ts).bind fitL=fitL ts from rfl,hf] at e
   cases e
   obtain⟨rfl,hz⟩:=fitL_some hf
   refine⟨O,d,_,R,hg,fun vs H' s b=>⟨by rw[b.length]; exact hz,fun p hp=>q _ _ (s.trans (Same.upd hp)) ?_⟩⟩
   exact .tup (SqT.of (less_of upd_same ((R.mono s).notOwn hp))) (b.mono (less_mono (Same.upd hp)))
theorem pf_list {es:List Expr}{g:FL}(h:PDA X es g):PF X (.List es pos) (fList g):=PE.imp (pe_lst h) fun σ H Q ⟨O,d,T,R,e,q⟩=>by
 unfold fList at e
 cases hg:g d with
 |none=>rw[hg] at e; cases e
 |some ts =>
  rw[hg] at e
  obtain⟨rfl,hz⟩:=fitL_some e
  refine⟨O,d,_,R,hg,fun vs H' s b=>⟨by rw[b.length]; exact hz,fun p hp=>q _ _ (s.trans (Same.upd hp)) ?_⟩⟩
  exact⟨p,vs,rfl,s.free hp,upd_same,b.mono (less_new (Same.upd hp) hp)⟩
end
inductive Out where
 |nx (d:Sd) | rt (T:Th) | bk (d:Sd) | ct (d:Sd) | xc (c:Str)
abbrev FS:=Sd→Option Out
def RaisesAt (X:Cx)(x:Str)(H:Hp):Prop:=∀ (pins:List (Addr×Obj)) (σ:St) (s:Shared) (vs:List Value) (h':Heap) (e C:Addr),Inv X pins σ H s→X.mg x=some (.ref C)→Heap.MadeExcOf s.heap h' e (.ref C) vs→X.xe (.ref e) { s with heap:=h' }
def Ends.on (X:Cx)(D:Ends)(f:Addr→Prop)(B:Hp):Out→Prop
 |.nx d=>∀ σ H O,O.far=f→Same B (low H O)→Rep X.K H O σ d→D.nx σ H
 |.rt T=>∀ v H,Same B H→Bears X.K (less H ⟨[],f⟩) v T→D.rt v H
 |.bk d=>∀ σ H O,O.far=f→Same B (low H O)→Rep X.K H O σ d→D.bk σ H
 |.ct d=>∀ σ H O,O.far=f→Same B (low H O)→Rep X.K H O σ d→D.ct σ H
 |.xc c=>∀ H,Same B H→RaisesAt X c H
def liftS (X:Cx)(F:FS):TS:=fun D σ H=>∃ O d o,Rep X.K H O σ d∧F d=some o∧D.on X O.far (low H O) o
def PDS (X:Cx)(st:Stmt)(F:FS):Prop:=PS X st (liftS X F)
def PDSs (X:Cx)(sts:List Stmt)(F:FS):Prop:=PSs X sts (liftS X F)
theorem Ends.on.mono {X:Cx}{D:Ends}{f:Addr→Prop}{B B':Hp}{o:Out}(h:D.on X f B o)(s:Same B B'):D.on X f B' o:=by
 cases o with
 |nx d=>exact fun σ H O hf s' r=>h σ H O hf (s.trans s') r
 |rt T=>exact fun v H s' b=>h v H (s.trans s') b
 |bk d=>exact fun σ H O hf s' r=>h σ H O hf (s.trans s') r
 |ct d=>exact fun σ H O hf s' r=>h σ H O hf (s.trans s') r
 |xc c=>exact fun H s'=>h H (s.trans s')
theorem less_bare {H:Hp}{O:Hid}:Same (less H O) (less H ⟨[],O.far⟩):=fun b o e=>by
 obtain⟨h1,h2⟩:=of_less e
 exact less_of h1 fun z=>z.elim (fun q=>by simp at q) fun q=>h2 (.inr q)
theorem Lent.out {K:PySem.W.Frag}{H:Hp}{O:Hid}{v:V}{T:Th}(h:Lent K H O v T):Bears K (less H ⟨[],O.far⟩) v T:=by
 rcases h with h | ⟨a,xs,ts,rfl,rfl,e3,hf,h⟩
 ·exact h.mono less_bare
 ·exact .lst (SqL.of (less_of e3 fun z=>z.elim (fun q=>by simp at q) hf)) (h.mono less_bare)
section
variable {X:Cx}{e a b:Expr}{st:Stmt}{rest sts:List Stmt}{f:FD}{F G:FS}{pos:Pos}
theorem PS.imp {t t':TS}(h:PS X st t)(i:∀ D σ H,t' D σ H→t D σ H):PS X st t':=fun pins s σ H D I q=>h pins s σ H D I (i D σ H q)
theorem PSs.imp {t t':TS}(h:PSs X sts t)(i:∀ D σ H,t' D σ H→t D σ H):PSs X sts t':=fun pins s σ H D I q=>h pins s σ H D I (i D σ H q)
def fNext:FS:=fun d=>some (.nx d)
def fSeq (F G:FS):FS:=fun d=>(F d).bind fun o=>match o with | .nx d'=>G d' | .rt T=>some (.rt T) | .bk d'=>some (.bk d') | .ct d'=>some (.ct d') | .xc c=>some (.xc c)
theorem pdss_nil:PDSs X [] fNext:=PSs.imp pss_nil fun D σ H ⟨O,d,o,R,e,q⟩=>by cases e; exact q σ H O rfl (Same.refl _) R
theorem pdss_cons (h1:PDS X st F)(h2:PDSs X rest G):PDSs X (st::rest) (fSeq F G):=PSs.imp (pss_cons h1 h2) fun D σ H ⟨O,d,o,R,e,q⟩=>by
 unfold fSeq at e
 cases hF:F d with
 |none=>rw[hF] at e; cases e
 |some o1 =>
  rw[hF] at e
  refine⟨O,d,o1,R,hF,?_⟩
  cases o1 with
  |nx d'=>exact fun σ' H' O' hf s R'=>⟨O',d',o,R',e,by rw[hf]; exact q.mono s⟩
  |rt T=>cases e; exact q
  |bk d'=>cases e; exact q
  |xc c=>cases e; exact q
  |ct d'=>cases e; exact q
theorem pdss_one (h1:PDS X st F):PDSs X [st] F:=pss_one h1
def fRet (f:FD):FS:=fun d=>(f d).map Out.rt
theorem pds_ret (h:PB X e f):PDS X (.Return (some e) pos) (fRet f):=PS.imp (ps_ret h) fun D σ H ⟨O,d,o,R,e,q⟩=>by
 unfold fRet at e
 cases hf:f d with
 |none=>rw[hf] at e; cases e
 |some T =>
  rw[hf] at e
  cases e
  exact⟨O,d,T,R,hf,fun v H' s b=>q v H' ((low_sub H O).trans s) b.out⟩
theorem pds_if {c:Expr}{A B:List Stmt}{fc:FB}(hc:PDT X c fc)(ha:PDSs X A F)(hb:PDSs X B G):PDS X (.If c A B pos) (fIf fc F G):=PS.imp (ps_if hc ha hb) fun D σ H ⟨O,d,o,R,e,q⟩=>by
 unfold fIf at e
 cases hf:fc d with
 |none=>rw[hf] at e; cases e
 |some z =>
  rw[hf] at e
  refine⟨O,d,z,R,hf,fun H' s=>?_⟩
  cases z with
  |true=>exact⟨O,d,o,R.mono s,e,q.mono (low_mono s)⟩
  |false=>exact⟨O,d,o,R.mono s,e,q.mono (low_mono s)⟩
def fSet (i:Nat)(f:FD):FS:=fun d=>(f d).map fun T=>.nx (d.set i (some (.th T)))
theorem set_lift {i:Nat}:∀ D σ H,liftS X (fSet i f) D σ H→tAsg (liftD X.K f) (gName i) D σ H:=fun D σ H ⟨O,d,o,R,e,q⟩=>by
 unfold fSet at e
 cases hf:f d with
 |none=>rw[hf] at e; cases e
 |some T =>
  rw[hf] at e
  cases e
  exact⟨O,d,T,R,hf,fun v H' s b=>q _ H' O rfl (low_mono s) ((R.mono s).set i b)⟩
theorem pds_set {i:Nat}{x:Str}{pos':Pos}(hN:X.N.Nodup)(hi:X.N[i]?=some x)(hx:Loc X.env.scope x)(he:PD X e f)(hs:swapsWith e (some (.Name x pos')) pos.line X.env=pure false:=by rfl)
  (hf:X.fn x=true∨X.env.scope.names.lookup x=some .local:=by first | exact .inl rfl | exact .inr rfl | assumption):PDS X (.Assign [.Name x pos'] e pos) (fSet i f):=PS.imp (ps_set hN hi hx he hs hf) set_lift
def fOwn (i:Nat)(f:FL):FS:=fun d=>(f d).map fun ts=>.nx (d.set i (some (.own ts)))
theorem Rep.setOwn {K:PySem.W.Frag}{H H':Hp}{O:Hid}{σ:St}{d:Sd}(r:Rep K H O σ d)(s:Same H H')(i:Nat){v:V}{ts:List Th}(b:Fresh K H H' O v ts) :
  ∃ a,v=.ref a∧H a=none∧Rep K H' (O.cons i a) (σ.set i (some v)) (d.set i (some (.own ts))):=by
 obtain⟨a,xs,rfl,e2,e3,b⟩:=b
 refine⟨a,rfl,e2,?_⟩
 have nf:¬ O.has a:=r.notOwn e2
 have sub:Same (less H O) (less H' (O.cons i a)):=less_new s e2
 exact {
  len:=by rw[List.length_set,List.length_set]; exact r.len
  th:=fun j U e=>by
   by_cases hj:i=j
   ·subst hj
    have hi:i<d.length:=by
     have:=(List.getElem?_eq_some_iff.mp e).1
     simpa using this
    rw[List.getElem?_set_self hi] at e
    cases e
   ·rw[List.getElem?_set_ne hj] at e
    obtain⟨w,h1,h2⟩:=r.th j U e
    exact⟨w,by rw[List.getElem?_set_ne hj]; exact h1,h2.mono sub⟩
  own:=fun j us e=>by
   by_cases hj:i=j
   ·subst hj
    have hi:i<d.length:=by
     have:=(List.getElem?_eq_some_iff.mp e).1
     simpa using this
    rw[List.getElem?_set_self hi] at e
    cases e
    exact⟨a,xs,List.mem_cons_self,List.getElem?_set_self (by rw[← r.len]; exact hi),e3,fun z=>nf (.inr z),by rw[less_cons_any (j:=0)]; exact b⟩
   ·rw[List.getElem?_set_ne hj] at e
    obtain⟨a',xs',h1,h2,h3,h4,h5⟩:=r.own j us e
    exact⟨a',xs',List.mem_cons_of_mem _ h1,by rw[List.getElem?_set_ne hj]; exact h2,s _ _ h3,h4,h5.mono sub⟩
  there:=fun p hp=>by
   rcases has_cons hp with rfl | hp
   ·exact⟨_,e3⟩
   ·obtain⟨o,e⟩:=r.there p hp
    exact⟨o,s _ _ e⟩
  exc:=fun j c e=>by
   by_cases hj:i=j
   ·subst hj
    have hi:i<d.length:=by
     have:=(List.getElem?_eq_some_iff.mp e).1
     simpa using this
    rw[List.getElem?_set_self hi] at e
    cases e
   ·rw[List.getElem?_set_ne hj] at e
    obtain⟨a',C,h1,h2,h3⟩:=r.exc j c e
    exact⟨a',C,by rw[List.getElem?_set_ne hj]; exact h1,h2,sub _ _ h3⟩
  dct:=fun j fz kvs e=>by
   by_cases hj:i=j
   ·subst hj
    rw[List.getElem?_set_self (by simpa using (List.getElem?_eq_some_iff.mp e).1)] at e
    cases e
   ·rw[List.getElem?_set_ne hj] at e
    obtain⟨a',h1,h2,h3,h4⟩:=r.dct j fz kvs e
    exact⟨a',List.mem_cons_of_mem _ h1,by rw[List.getElem?_set_ne hj]; exact h2,h3.mono (s a'),h4⟩
  inj:=fun j k p h1 h2=>by
   have h1:(j,p)∈(i,a)::O.own:=h1
   have h2:(k,p)∈(i,a)::O.own:=h2
   have no:∀ m,(m,a)∉O.own:=fun m z=>nf (.inl (List.mem_map.mpr ⟨_,z,rfl⟩))
   rcases List.mem_cons.mp h1 with q1 | q1
   ·rcases List.mem_cons.mp h2 with q2 | q2
    ·cases q1; cases q2; rfl
    ·cases q1; exact absurd q2 (no _)
   ·rcases List.mem_cons.mp h2 with q2 | q2
    ·cases q2; exact absurd q1 (no _)
    ·exact r.inj j k p q1 q2 }
theorem own_lift {i:Nat}{f:FL}:∀ D σ H,liftS X (fOwn i f) D σ H→tAsg (liftF X.K f) (gName i) D σ H:=fun D σ H ⟨O,d,o,R,e,q⟩=>by
 unfold fOwn at e
 cases hf:f d with
 |none=>rw[hf] at e; cases e
 |some T =>
  rw[hf] at e
  cases e
  refine⟨O,d,T,R,hf,fun v H' s b=>?_⟩
  obtain⟨a,rfl,hn,R'⟩:=R.setOwn s i b
  exact q _ H' (O.cons i a) rfl (low_new s hn) R'
theorem pds_own {i:Nat}{f:FL}{x:Str}{pos':Pos}(hN:X.N.Nodup)(hi:X.N[i]?=some x)(hx:Loc X.env.scope x)(he:PF X e f)(hs:swapsWith e (some (.Name x pos')) pos.line X.env=pure false:=by rfl)
  (hf:X.fn x=true∨X.env.scope.names.lookup x=some .local:=by first | exact .inl rfl | exact .inr rfl | assumption):PDS X (.Assign [.Name x pos'] e pos) (fOwn i f):=PS.imp (ps_set hN hi hx he hs hf) own_lift
def fAppend (i:Nat)(f:FD):FS:=fun d=>match d[i]? with
 |some (some (.own ts))=>(f d).bind fun T=>if ts.length<1000000 then some (.nx (d.set i (some (.own (ts++[T]))))) else none
 |_=>none
theorem Rep.append {K:PySem.W.Frag}{H:Hp}{O:Hid}{σ:St}{d:Sd}(r:Rep K H O σ d){i:Nat}{ts:List Th}(hd:d[i]?=some (some (.own ts))){a:Addr}{xs:List V}(ha:(i,a)∈O.own)(hs:σ[i]?=some (some (.ref a)))(hx:H a=some (.lst xs))(hf:¬ O.far a)(hb:BearsL K (less H O) xs ts)
  {v:V} {T:Th} (b:Bears K (less H O) v T):Rep K (upd H a (.lst (xs++[v]))) O σ (d.set i (some (.own (ts++[T]))))∧Same (low H O) (low (upd H a (.lst (xs++[v]))) O):=by
 have hm:a∈O.own.map (·.2):=List.mem_map.mpr ⟨_,ha,rfl⟩
 have sub:Same (less H O) (less (upd H a (.lst (xs++[v]))) O):=fun p o e=>by
  obtain⟨h1,h2⟩:=of_less e
  refine less_of ?_ h2
  have np:p≠a:=fun z=>h2 (.inl (by rw[z]; exact hm))
  rw[upd_ne np]; exact h1
 refine⟨{ len:=by rw[List.length_set]; exact r.len,th:=fun j U e=>?_,own:=fun j us e=>?_,there:=fun p hp=>?_,inj:=r.inj,exc:=fun j c e=>?_,dct:=fun j fz kvs e=>?_ },fun p o e=>?_⟩
 ·by_cases hj:i=j
  ·subst hj
   have hi:i<d.length:=(List.getElem?_eq_some_iff.mp hd).1
   rw[List.getElem?_set_self hi] at e
   cases e
  ·rw[List.getElem?_set_ne hj] at e
   obtain⟨w,h1,h2⟩:=r.th j U e
   exact⟨w,h1,h2.mono sub⟩
 ·by_cases hj:i=j
  ·subst hj
   have hi:i<d.length:=(List.getElem?_eq_some_iff.mp hd).1
   rw[List.getElem?_set_self hi] at e
   cases e
   exact⟨a,_,ha,hs,upd_same,hf,(hb.append (.cons b .nil)).mono sub⟩
  ·rw[List.getElem?_set_ne hj] at e
   obtain⟨a',xs',h1,h2,h3,h4,h5⟩:=r.own j us e
   refine⟨a',xs',h1,h2,?_,h4,h5.mono sub⟩
   have np:a'≠a:=fun z=>hj (r.inj i j a ha (by rw[← z]; exact h1))
   rw[upd_ne np]; exact h3
 ·by_cases hp':p=a
  ·subst hp'; exact⟨_,upd_same⟩
  ·obtain⟨o,e⟩:=r.there p hp
   exact⟨o,by rw[upd_ne hp']; exact e⟩
 ·by_cases hj:i=j
  ·subst hj
   have hi:i<d.length:=(List.getElem?_eq_some_iff.mp hd).1
   rw[List.getElem?_set_self hi] at e
   cases e
  ·rw[List.getElem?_set_ne hj] at e
   obtain⟨a',C,h1,h2,h3⟩:=r.exc j c e
   exact⟨a',C,h1,h2,sub _ _ h3⟩
 ·by_cases hj:i=j
  ·subst hj
   rw[List.getElem?_set_self (by simpa using (List.getElem?_eq_some_iff.mp e).1)] at e
   cases e
  ·rw[List.getElem?_set_ne hj] at e
   obtain⟨a',h1,h2,h3,h4⟩:=r.dct j fz kvs e
   have np:a'≠a:=fun z=>hj (r.inj i j a ha (by rw[← z]; exact h1))
   exact⟨a',h1,h2,h3.mono fun o q=>by rw[upd_ne np]; exact q,h4⟩
 ·obtain⟨h1,h2⟩:=of_low e
  refine low_of ?_ h2
  have np:p≠a:=fun z=>h2 (by rw[z]; exact hm)
  rw[upd_ne np]; exact h1
theorem pds_append {i:Nat} {o:Expr} {apos cpos:Pos} (ho:PE X o (tVar i)) (he:PD X e f) (hbase:attributeBase o "append" X.env (eval o X.env)=eval o X.env:=by rfl)
  (hfew:((backTo cpos (starEach [e] X.env)).all (fun x=>!x.1)&&(backToKw cpos (keywordEach [] X.env)).all (fun x=>x.1.isSome)
  &&decide (([e]:List Expr).length+([]:List Keyword).length+(if ([]:List Keyword).isEmpty then 0 else 1)<30))=true:=by rfl)
  (hline:(apos.endLine == cpos.line)=true:=by rfl) (hs:starEach [e] X.env=(false,eval e X.env)::starEach [] X.env:=by rfl) (hplain:(backTo cpos (starEach ([]:List Expr) X.env)).any (·.1)=false:=by rfl)
  (hsw:swapsWith (.Call (.Attribute o "append" apos) [e] [] cpos) none pos.line X.env=pure false:=by rfl) :
  PDS X (.Expr (.Call (.Attribute o "append" apos) [e] [] cpos) pos) (fAppend i f) :=
 PS.imp (ps_expr (pe_bm PySem.F.plainAttrs_list PySem.F.slot_list_append PySem.F.type_list_append mt_append ho (pa_cons he pa_nil hs) hbase hfew hline hs hplain) hsw) fun D σ H ⟨O,d,o,R,e,q⟩=>by
  unfold fAppend at e
  split at e
  ·rename_i ts hd
   cases hf:f d with
   |none=>rw[hf] at e; cases e
   |some T =>
    rw[hf] at e
    obtain⟨a,xs,h1,h2,h3,h4,h5⟩:=R.own i ts hd
    change (if ts.length<1000000 then _ else _)=_ at e
    split at e
    ·rename_i hz
     cases e
     refine⟨_,h2,.inl ⟨rfl,xs,SqL.of h3⟩,O,d,T,R,hf,fun v H' s b=>⟨a,xs,v,rfl,rfl,s _ _ h3,by rw[h5.length]; exact Nat.lt_of_lt_of_le hz (by decide),?_⟩⟩
     obtain⟨R',s'⟩:=(R.mono s).append hd h1 h2 (s _ _ h3) h4 (h5.mono (less_mono s)) b
     exact q σ _ O rfl ((low_mono s).trans s') R'
    ·cases e
  ·cases e
abbrev FG:=Th→Sd→Option Sd
def liftG (K:PySem.W.Frag)(g:FG):TG:=fun v σ H Q=>∃ O d T d',Rep K H O σ d∧Bears K (less H O) v T∧g T d=some d'∧∀ σ',Rep K H O σ' d'→Q σ' H
def PDG (X:Cx)(tg:Expr)(g:FG):Prop:=PG X tg (liftG X.K g)
theorem PG.imp {tg:Expr}{t t':TG}(h:PG X tg t)(i:∀ v σ H Q,t' v σ H Q→t v σ H Q):PG X tg t':=fun pins s σ H v u Q I r q=>h pins s σ H v u Q I r (i v σ H Q q)
def gVar (i:Nat):FG:=fun T d=>some (d.set i (some (.th T)))
def gPair (i j:Nat):FG:=fun T d=>match T with | .tup [x,y]=>some ((d.set i (some (.th x))).set j (some (.th y))) | _=>none
theorem pdg_var {i:Nat}{x:Str}(hN:X.N.Nodup)(hi:X.N[i]?=some x)(hx:Loc X.env.scope x)(hf:X.fn x=true∨X.env.scope.names.lookup x=some .local:=by first | exact .inl rfl | exact .inr rfl | assumption):PDG X (.Name x pos) (gVar i) :=
 PG.imp (pg_name hN hi hx hf) fun v σ H Q ⟨O,d,T,d',R,b,e,q⟩=>by cases e; exact q _ (R.set i b)
theorem BearsL.two {K:PySem.W.Frag}{H:Hp}{xs:List V}{x y:Th}(h:BearsL K H xs [x,y]):∃ v w,xs=[v,w]∧Bears K H v x∧Bears K H w y:=by
 cases h with
 |cons h1 r=>cases r with
  |cons h2 r2=>cases r2; exact⟨_,_,rfl,h1,h2⟩
theorem pdg_pair {i j:Nat}{x y:Str}{px py:Pos}{k:Nat}(hc:X.calm=true)(hN:X.N.Nodup)(hi:X.N[i]?=some x)(hj:X.N[j]?=some y)(hx:Loc X.env.scope x)(hy:Loc X.env.scope y)
  (h:PG X (.Tuple [.Name x px,.Name y py] k pos) (gTup X.K 2 (gCons (gName i) (gCons (gName j) gNil)))):PDG X (.Tuple [.Name x px,.Name y py] k pos) (gPair i j) :=
 PG.imp h fun v σ H Q ⟨O,d,T,d',R,b,e,q⟩=>by
  unfold gPair at e
  split at e
  ·cases e
   cases b with
   |tup e' b' =>
    obtain⟨v1,v2,rfl,b1,b2⟩:=b'.two
    exact⟨_,_,rfl,(less_sub H O).seqT e',rfl,v1,_,rfl,v2,_,rfl,rfl,q _ ((R.set i b1).set j b2)⟩
  ·cases e
structure ItOk (K:PySem.W.Frag)(J:It)(B:Hp)(f:Addr→Prop)(ts:List Th):Prop where
 go:∀ i H,Same B H→i<ts.length→J.go i H
 stop:∀ H,Same B H→J.stop ts.length H
 yld:∀ i H O x H',i<ts.length→O.far=f→Same B (low H O)→(∀ p,H p=none→¬ O.has p)→J.yld i H x H'→Same H H'∧∃ T,ts[i]?=some T∧Bears K (less H' O) x T
def liftI (K:PySem.W.Frag)(f:FL):TI:=fun σ H R=>∃ O d ts,Rep K H O σ d∧f d=some ts∧∀ J H',Same H H'→ItOk K J (low H' O) O.far ts→R J H'
def PDI (X:Cx)(tg iter:Expr)(f:FL):Prop:=PI X tg iter (liftI X.K f)
theorem PI.imp {tg iter:Expr}{t t':TI}(h:PI X tg iter t)(i:∀ σ H R,t' σ H R→t σ H R):PI X tg iter t':=fun pins s σ H R I q=>h pins s σ H R I (i σ H R q)
def forL (g:FG)(F:FS):List Th→Sd→Option Out
 |[],d=>some (.nx d)
 |t::r,d=>(g t d).bind fun d1=>(F d1).bind fun o=>match o with | .nx d'=>forL g F r d' | .ct d'=>forL g F r d' | .bk d'=>some (.nx d') | .rt T=>some (.rt T) | .xc c=>some (.xc c)
def fFor (fi:FL)(g:FG)(F:FS):FS:=fun d=>(fi d).bind fun ts=>forL g F ts d
theorem pds_for {tg iter:Expr}{body:List Stmt}{fi:FL}{g:FG}(hp:PassesOwn (model X.prog X.w) X.A X.env X.xe)(hc:X.calm=true)(hi:PDI X tg iter fi)(hg:PDG X tg g)(hb:PDSs X body F)
  (hs:∀ x,foldedSetIterable iter X.env x=pure x:=by intro _; rfl):PDS X (.For tg iter body [] pos) (fFor fi g F):=PS.imp (ps_for hp hc hi hg hb hs) fun D σ H ⟨O,d,o,R,e,q⟩=>by
 unfold fFor at e
 cases hfi:fi d with
 |none=>rw[hfi] at e; cases e
 |some ts =>
  rw[hfi] at e
  change forL g F ts d=some o at e
  refine⟨O,d,ts,R,hfi,fun J H1 s1 ok=>⟨fun i m σ' H'=>m=ts.length-i∧i≤ts.length∧∃ O' d',O'.far=O.far∧Rep X.K H' O' σ' d'∧Same (low H1 O) (low H' O')∧forL g F (ts.drop i) d'=some o,⟨ts.length,rfl,Nat.zero_le _,O,d,rfl,R.mono s1,Same.refl _,e⟩,?_⟩⟩
  rintro i m σ' H' ⟨rfl,hi,O',d',hf',R',s',e'⟩
  have sB:Same (low H1 O) H':=s'.trans (low_sub H' O')
  by_cases hlt:i<ts.length
  ·rw[List.drop_eq_getElem_cons hlt] at e'
   unfold forL at e'
   cases hgd:g ts[i] d' with
   |none=>rw[hgd] at e'; cases e'
   |some d1 =>
    rw[hgd] at e'
    change ((F d1).bind _)=_ at e'
    cases hF:F d1 with
    |none=>rw[hF] at e'; cases e'
    |some o1 =>
     rw[hF] at e'
     refine .inr ⟨ok.go i H' sB hlt,fun σ2 H2=>∃ O2 d2,O2.far=O.far∧Rep X.K H2 O2 σ2 d2∧Same (low H1 O) (low H2 O2)∧forL g F (ts.drop (i+1)) d2=some o,fun σ2 H2 ⟨O2,d2,h1,h2,h3,h4⟩=>⟨ts.length-(i+1),by lia,rfl,hlt,O2,d2,h1,h2,h3,h4⟩,fun x Hx hy=>?_⟩
     obtain⟨sx,T,hT,bx⟩:=ok.yld i H' O' x Hx hlt hf' s' (fun p hp=>R'.notOwn hp) hy
     rw[List.getElem?_eq_getElem hlt] at hT
     cases hT
     refine⟨O',d',_,d1,R'.mono sx,bx,hgd,fun σ1 R1=>⟨O',d1,o1,R1,hF,?_⟩⟩
     have sx':Same (low H1 O) (low Hx O'):=s'.trans (low_mono sx)
     cases o1 with
     |nx d2=>exact fun σ2 H2 O2 hf2 s2 R2=>⟨O2,d2,hf2.trans hf',R2,sx'.trans s2,e'⟩
     |ct d2=>exact fun σ2 H2 O2 hf2 s2 R2=>⟨O2,d2,hf2.trans hf',R2,sx'.trans s2,e'⟩
     |bk d2=>cases e'; exact fun σ2 H2 O2 hf2 s2 R2=>q σ2 H2 O2 (hf2.trans hf') (((low_mono s1).trans sx').trans s2) R2
     |xc c=>cases e'; exact fun H2 s2=>q H2 (((low_mono s1).trans sx').trans s2)
     |rt T2=>cases e'; rw[hf']; exact fun v H2 s2 b2=>q v H2 (((low_mono s1).trans sx').trans s2) b2
  ·have e1:i=ts.length:=by lia
   subst e1
   rw[List.drop_length] at e'
   cases e'
   exact .inl ⟨ok.stop H' sB,q σ' H' O' hf' ((low_mono s1).trans s') R'⟩
end
def Its (x:Str):It:=⟨fun i _=>i<x.cps.size,fun i H v H'=>H'=H∧∃ c,x.cps[i]?=some c∧v=.str ⟨#[c]⟩,fun i _=>i=x.cps.size⟩
theorem striter_walks {prog:Program}{w:World}{A:Around}(hh:A.handled=none)(I:Addr)(x:Str)(t:Tok) :
  Walks prog w A I [I] [I] x.cps.size (SignAt x) (fun i h=>h.IsStrIter I (strIterType x) x t i):=by
 cases ha:x.cps.all (·<128)
 ·have e:strIterType x="str_iterator":=by simp[strIterType,ha]
  rw[e]; exact Walks.strWide hh I x t
 ·have e:strIterType x="str_ascii_iterator":=by simp[strIterType,ha]
  rw[e]; exact Walks.strAscii hh I x t
theorem striter_self {prog:Program}{w:World}{A:Around}{E:Value→Shared→Prop}{s:Shared}{I:Addr}{x:Str}{t:Tok}{i:Nat}{Q:Value→Shared→Prop}(h:s.heap.IsStrIter I (strIterType x) x t i)(q:Q (.ref I) s):wpAny (model prog w) A (pyIter (.ref I)) Q E s:=by
 cases ha:x.cps.all (·<128)
 ·have e:strIterType x="str_iterator":=by simp[strIterType,ha]
  rw[e] at h; exact wpAny_pyIter_striter_wide h q
 ·have e:strIterType x="str_ascii_iterator":=by simp[strIterType,ha]
  rw[e] at h; exact wpAny_pyIter_striter_ascii h q
theorem turn_str {P:Program}{w:World}{K:PySem.W.Frag}{y:Str}{py:Pos}(x:Str)(t:Tok)(it:Addr):Turn P w K (.Name y py) (Its x) [it] it (fun i h=>h.IsStrIter it (strIterType x) x t i) where
 mem:=by simp
 obj:=fun i h st b hb=>by
  have e:b=it:=by simpa using hb
  subst e
  obtain⟨o,e,c,d⟩:=st
  exact⟨o,e,fun v z=>by rw[d] at z; cases z⟩
 keep:=fun i h h' st k=>by
  obtain⟨o,e,r⟩:=st
  exact⟨o,k it (by simp) o e,r⟩
 item:=by
  intro X hP hw hK hc i pins s σ H E I hf st hg
  subst hP hw hK
  obtain⟨f0,f1,f2,f3,f4,f5⟩:=hf it (by simp)
  refine (striter_walks (I.ok.hd hc) it x t).item i s _ _ hg st fun v h' tk hv st' kk=>?_
  obtain⟨c,u,hcc,rfl⟩:=hv
  have I1:Inv X pins σ H { s with heap:=h',toks:=tk }:=I.turned (fun b o hb e=>kk b o (by simpa using hb) e) f0 f1 f3 f4 f5
  exact⟨_,rfl,wpAny_pure ⟨.str ⟨#[c]⟩,H,I1,⟨u,rfl⟩,⟨rfl,c,hcc,rfl⟩,st',fun b hb=>(hf b hb).1⟩⟩
 done:=by
  intro X hP hw hK hc i pins s σ H E I hf st hg
  subst hP hw hK
  obtain⟨f0,f1,f2,f3,f4,f5⟩:=hf it (by simp)
  have hg':i=x.cps.size:=hg
  subst hg'
  exact (striter_walks (I.ok.hd hc) it x t).done s _ _ st fun h' tk kk=>⟨rfl,I.turned (fun b o hb e=>kk b o (by simpa using hb) e) f0 f1 f3 f4 f5⟩
 self:=fun _ _ _ _ _ st h=>striter_self st h
def iStr (tl:TE):TI:=fun σ H R=>tl σ H fun v H1=>∃ x,v=.str x∧R (Its x) H1
theorem pi_str {X:Cx}{y:Str}{py:Pos}{l:Expr}{tl:TE}(hl:PE X l tl):PI X (.Name y py) l (iStr tl):=by
 intro pins s σ H R I h
 refine thn (hl pins s σ H _ I h) fun v s1 ⟨x,H1,I1,r1,q1⟩=>?_
 obtain⟨z,rfl,q⟩:=q1
 obtain⟨t,rfl⟩:=r1
 refine wpAny_pyIter_strU ?_
 refine⟨s1.heap.objs.size,[s1.heap.objs.size],_,_,H1,rfl,I1.kept (t':=s1.toks) fun b o e=>Heap.get?_push_of_some _ e,turn_str z t _,⟨_,Heap.get?_push_size _ rfl,rfl,rfl⟩,fun b hb=>?_,q⟩
 have e:b=s1.heap.objs.size:=by simpa using hb
 subst e
 exact I1.fpOk (Nat.le_refl _) (I1.hok.fresh (Nat.le_refl _))
theorem PI.or {X:Cx}{tg l:Expr}{t t':TI}(h:PI X tg l t)(h':PI X tg l t'):PI X tg l (fun σ H R=>t σ H R∨t' σ H R):=fun pins s σ H R I q=>q.elim (h pins s σ H R I) (h' pins s σ H R I)
def signs (x:Str):List Th:=x.cps.toList.map fun c=>.str ⟨#[c]⟩
def itemsOf:Th→Option (List Th)
 |.lst ts=>some ts
 |.tup ts=>some ts
 |.str x=>some (signs x)
 |_=>none
def fItems (f:FD):FL:=fun d=>(f d).bind itemsOf
section
variable {X:Cx}{tg l:Expr}{f:FD}{K:PySem.W.Frag}
theorem itok_list {H:Hp}{O:Hid}{a:Addr}{xs:List V}{ts:List Th}(h:SqL K (less H O) a xs)(b:BearsL K (less H O) xs ts):ItOk K (Itl K a) (low H O) O.far ts where
 go:=fun i H' s hi=>by
  have hl:SqL K H' a xs:=by
   rcases h with (h | ⟨o,h⟩) | h
   ·exact .inl (.inl (s _ _ (low_of (of_less h).1 fun z=>(of_less h).2 (.inl z))))
   ·exact .inl (.inr ⟨o,s _ _ (low_of (of_less h).1 fun z=>(of_less h).2 (.inl z))⟩)
   ·exact .inr h
  have hi':i<xs.length:=by rw[b.length]; exact hi
  exact⟨xs,xs[i],hl,by simp[hi']⟩
 stop:=fun H' s=>by
  have hl:SqL K H' a xs:=by
   rcases h with (h | ⟨o,h⟩) | h
   ·exact .inl (.inl (s _ _ (low_of (of_less h).1 fun z=>(of_less h).2 (.inl z))))
   ·exact .inl (.inr ⟨o,s _ _ (low_of (of_less h).1 fun z=>(of_less h).2 (.inl z))⟩)
   ·exact .inr h
  exact⟨xs,hl,by rw[b.length]; exact Nat.le_refl _⟩
 yld:=fun i H' O' x H'' hi hf s _ y=>by
  obtain⟨e,y⟩:=y
  subst e
  have sl:Same (less H O) (less H'' O'):=low_less s hf
  have hx:=y xs ((less_sub H'' O').seq (sl.seq h))
  obtain⟨T,h1,h2⟩:=b.got hx
  exact⟨Same.refl _,T,h1,h2.mono sl⟩
theorem itok_tup {H:Hp}{O:Hid}{a:Addr}{xs:List V}{ts:List Th}(h:SqT K (less H O) a xs)(b:BearsL K (less H O) xs ts):ItOk K (Itt K a) (low H O) O.far ts where
 go:=fun i H' s hi=>by
  have hl:SqT K H' a xs:=by
   rcases h with (h | ⟨o,h⟩) | h
   ·exact .inl (.inl (s _ _ (low_of (of_less h).1 fun z=>(of_less h).2 (.inl z))))
   ·exact .inl (.inr ⟨o,s _ _ (low_of (of_less h).1 fun z=>(of_less h).2 (.inl z))⟩)
   ·exact .inr h
  have hi':i<xs.length:=by rw[b.length]; exact hi
  exact⟨xs,xs[i],hl,by simp[hi']⟩
 stop:=fun H' s=>by
  have hl:SqT K H' a xs:=by
   rcases h with (h | ⟨o,h⟩) | h
   ·exact .inl (.inl (s _ _ (low_of (of_less h).1 fun z=>(of_less h).2 (.inl z))))
   ·exact .inl (.inr ⟨o,s _ _ (low_of (of_less h).1 fun z=>(of_less h).2 (.inl z))⟩)
   ·exact .inr h
  exact⟨xs,hl,by rw[b.length]; exact Nat.le_refl _⟩
 yld:=fun i H' O' x H'' hi hf s _ y=>by
  obtain⟨e,y⟩:=y
  subst e
  have sl:Same (less H O) (less H'' O'):=low_less s hf
  have hx:=y xs ((less_sub H'' O').seqT (sl.seqT h))
  obtain⟨T,h1,h2⟩:=b.got hx
  exact⟨Same.refl _,T,h1,h2.mono sl⟩
theorem itok_str {H:Hp}{O:Hid}(x:Str):ItOk K (Its x) (low H O) O.far (signs x) where
 go:=fun i H' s hi=>by
  show i<x.cps.size
  simpa [signs] using hi
 stop:=fun H' s=>by
  show (signs x).length=x.cps.size
  simp[signs]
 yld:=fun i H' O' v H'' hi hf s _ y=>by
  obtain⟨e,c,hc,e2⟩:=y
  subst e e2
  refine⟨Same.refl _,.str ⟨#[c]⟩,?_,.str _⟩
  have hc':x.cps.toList[i]?=some c:=by simpa using hc
  simp only[signs,List.getElem?_map,hc',Option.map_some]
theorem pdi_any {y:Str}{py:Pos}(h:PD X l f):PDI X (.Name y py) l (fItems f):=PI.imp ((pi_list h).or ((pi_tup h).or (pi_str h))) fun σ H R ⟨O,d,ts,r,e,q⟩=>by
 unfold fItems at e
 cases hf:f d with
 |none=>rw[hf] at e; cases e
 |some T =>
  rw[hf] at e
  change itemsOf T=some ts at e
  cases T with
  |lst us=>cases e; exact .inl ⟨O,d,_,r,hf,fun v H' s b=>by cases b with | lst e' b'=>exact⟨_,rfl,⟨_,(less_sub H' O).seq e'⟩,q _ H' s (itok_list e' b')⟩⟩
  |tup us=>cases e; exact .inr (.inl ⟨O,d,_,r,hf,fun v H' s b=>by cases b with | tup e' b'=>exact⟨_,rfl,⟨_,(less_sub H' O).seqT e'⟩,q _ H' s (itok_tup e' b')⟩⟩)
  |str x=>cases e; exact .inr (.inr ⟨O,d,_,r,hf,fun v H' s b=>by cases b; exact⟨x,rfl,q _ H' s (itok_str x)⟩⟩)
  |_=>cases e
def fSeqI (f:FD):FL:=fun d=>(f d).bind fun T=>match T with | .lst ts=>some ts | .tup ts=>some ts | _=>none
theorem pdi_seq (h:PD X l f):PDI X tg l (fSeqI f):=PI.imp ((pi_list h).or (pi_tup h)) fun σ H R ⟨O,d,ts,r,e,q⟩=>by
 unfold fSeqI at e
 cases hf:f d with
 |none=>rw[hf] at e; cases e
 |some T =>
  rw[hf] at e
  cases T with
  |lst us=>cases e; exact .inl ⟨O,d,_,r,hf,fun v H' s b=>by cases b with | lst e' b'=>exact⟨_,rfl,⟨_,(less_sub H' O).seq e'⟩,q _ H' s (itok_list e' b')⟩⟩
  |tup us=>cases e; exact .inr ⟨O,d,_,r,hf,fun v H' s b=>by cases b with | tup e' b'=>exact⟨_,rfl,⟨_,(less_sub H' O).seqT e'⟩,q _ H' s (itok_tup e' b')⟩⟩
  |_=>cases e
def upTo (n:Nat):List Th:=(List.range n).map fun (k:Nat)=>Th.int ((k:Nat):Int)
theorem itok_range {H:Hp}{O:Hid}(n:Nat):ItOk K (Itr 0 n) (low H O) O.far (upTo n) where
 go:=fun i H' s hi=>by
  show i<n
  simpa [upTo] using hi
 stop:=fun H' s=>by
  show n≤(upTo n).length
  simp[upTo]
 yld:=fun i H' O' v H'' hi hf s _ y=>by
  obtain⟨e,e2⟩:=y
  subst e e2
  refine⟨Same.refl _,.int (0+i),?_,.int _⟩
  have hi':i<n:=by simpa [upTo] using hi
  simp[upTo,hi']
def fRange1 (f:FD):FL:=fun d=>(f d).bind fun T=>match T with | .int j=>if j≤1000000∧-1000000≤j then some (upTo j.toNat) else none | _=>none
theorem pdi_range1 {a:Expr} {p pos:Pos} (hg:Gl X "range") (hm:X.mg "range"=none) (ha:PD X a f) (hs:starEach [a] X.env=[(false,eval a X.env)]:=by rfl) (hs1:starEach [a] X.env=(false,eval a X.env)::starEach [] X.env:=by rfl):PDI X tg (.Call (.Name "range" p) [a] [] pos) (fRange1 f) :=
 PI.imp (pi_range1 hg hm (pa_cons ha pa_nil hs1) hs) fun σ H R ⟨O,d,ts,r,e,q⟩=>by
  unfold fRange1 at e
  cases hf:f d with
  |none=>rw[hf] at e; cases e
  |some T =>
   rw[hf] at e
   cases T with
   |int j =>
    change (if j≤1000000∧-1000000≤j then _ else _)=_ at e
    split at e
    ·rename_i hj
     cases e
     exact⟨O,d,.int j,r,hf,fun v H' s b=>by
      cases b
      exact⟨j,rfl,by lia,by lia,q _ H' s (itok_range _)⟩⟩
    ·cases e
   |_=>cases e
theorem Rep.shift {H:Hp}{O:Hid}{σ:St}{d:Sd}(r:Rep K H O σ d)(pre:List (Option V))(pd:List (Option Dv))(hl:pd.length=pre.length)(hp:∀ (i:Nat) (T:Th),pd[i]?=some (some (Dv.th T))→∃ v,pre[i]?=some (some v)∧Bears K (less H O) v T)(hn:(∀ (i:Nat) (ts:List Th),pd[i]?≠some (some (Dv.own ts)))∧(∀ (i:Nat) (c:Str),pd[i]?≠some (some (Dv.exc c)))∧∀ (i:Nat) (fz:Bool) (kvs:List (Str×Th)),pd[i]?≠some (some (Dv.dct fz kvs))) :
  Rep K H ⟨O.own.map fun p=>(pre.length+p.1,p.2),O.far⟩ (pre++σ) (pd++d)∧less H ⟨O.own.map fun p=>(pre.length+p.1,p.2),O.far⟩=less H O:=by
 have hh:∀ b,Hid.has ⟨O.own.map fun p=>(pre.length+p.1,p.2),O.far⟩ b↔O.has b:=fun b=>by
  unfold Hid.has
  simp only[List.map_map]
  rfl
 have hle:less H ⟨O.own.map fun p=>(pre.length+p.1,p.2),O.far⟩=less H O:=by
  funext b
  unfold less
  by_cases z:O.has b
  ·rw[if_pos z,if_pos ((hh b).mpr z)]
  ·rw[if_neg z,if_neg (fun q=>z ((hh b).mp q))]
 refine⟨{ len:=by rw[List.length_append,List.length_append,hl,r.len],th:=fun i T e=>?_,own:=fun i ts e=>?_,there:=fun a h=>r.there a ((hh a).mp h),inj:=fun i j a h1 h2=>?_,exc:=fun i c e=>?_,dct:=fun i fz kvs e=>?_ },hle⟩
 ·rw[hle]
  by_cases hi:i<pd.length
  ·rw[List.getElem?_append_left hi] at e
   obtain⟨v,h1,h2⟩:=hp i T e
   exact⟨v,by rw[List.getElem?_append_left (by lia)]; exact h1,h2⟩
  ·rw[List.getElem?_append_right (by lia)] at e
   obtain⟨v,h1,h2⟩:=r.th _ T e
   exact⟨v,by rw[List.getElem?_append_right (by lia),← hl]; exact h1,h2⟩
 ·rw[hle]
  by_cases hi:i<pd.length
  ·rw[List.getElem?_append_left hi] at e
   exact absurd e (hn.1 i ts)
  ·rw[List.getElem?_append_right (by lia)] at e
   obtain⟨a,xs,h1,h2,h3,h4,h5⟩:=r.own _ ts e
   refine⟨a,xs,List.mem_map.mpr ⟨_,h1,?_⟩,by rw[List.getElem?_append_right (by lia),← hl]; exact h2,h3,h4,h5⟩
   simp only[Prod.mk.injEq,and_true]
   lia
 ·obtain⟨p,hp1,e1⟩:=List.mem_map.mp h1
  obtain⟨q,hq1,e2⟩:=List.mem_map.mp h2
  injection e1 with a1 a2
  injection e2 with b1 b2
  have e:p.1=q.1:=r.inj p.1 q.1 a (by rw[← a2]; exact hp1) (by rw[← b2]; exact hq1)
  lia
 ·rw[hle]
  by_cases hi:i<pd.length
  ·rw[List.getElem?_append_left hi] at e
   exact absurd e (hn.2.1 i c)
  ·rw[List.getElem?_append_right (by lia)] at e
   obtain⟨a,C,h1,h2⟩:=r.exc _ c e
   exact⟨a,C,by rw[List.getElem?_append_right (by lia),← hl]; exact h1,h2⟩
 ·by_cases hi:i<pd.length
  ·rw[List.getElem?_append_left hi] at e
   exact absurd e (hn.2.2 i fz kvs)
  ·rw[List.getElem?_append_right (by lia)] at e
   obtain⟨a,h1,h2,h3⟩:=r.dct _ fz kvs e
   refine⟨a,List.mem_map.mpr ⟨_,h1,?_⟩,by rw[List.getElem?_append_right (by lia),← hl]; exact h2,h3⟩
   simp only[Prod.mk.injEq,and_true]
   lia
def fTrue:FB:=fun _=>some true
def compL (g:Th→Option (List (Option Dv)))(ft:FB)(fe:FD)(d:Sd):List Th→Option (List Th)
 |[]=>some []
 |t::r=>(g t).bind fun p=>(ft (p++d)).bind fun c=>if c=true then (fe (p++d)).bind fun y=>(compL g ft fe d r).bind fun ys=>some (y::ys) else compL g ft fe d r
def g1:Th→Option (List (Option Dv)):=fun T=>some [some (.th T)]
def g2:Th→Option (List (Option Dv)):=fun T=>match T with | .tup [x,y]=>some [some (.th x),some (.th y)] | _=>none
def fComp (g:Th→Option (List (Option Dv)))(fi:FL)(ft:FB)(fe:FD):FL:=fun d=>(fi d).bind fun ts=>if ts.length≤1000000 then compL g ft fe d ts else none
structure CompG (K:PySem.W.Frag)(k:Nat)(g:TG)(gd:Th→Option (List (Option Dv))):Prop where
 run:∀ (H:Hp) (O:Hid) (v:V) (T:Th) (p:List (Option Dv)) (σ:St) (Q:St→Hp→Prop),Bears K (less H O) v T→gd T=some p →
  (∀ pre:List (Option V),pre.length=k→p.length=k→(∀ (i:Nat) (T:Th),p[i]?=some (some (Dv.th T))→∃ v,pre[i]?=some (some v)∧Bears K (less H O) v T)→((∀ (i:Nat) (ts:List Th),p[i]?≠some (some (Dv.own ts)))∧(∀ (i:Nat) (c:Str),p[i]?≠some (some (Dv.exc c)))∧∀ (i:Nat) (fz:Bool) (kvs:List (Str×Th)),p[i]?≠some (some (Dv.dct fz kvs)))→Q (pre++σ) H)→g v (List.replicate k none++σ) H Q
theorem compG1:CompG K 1 (gName 0) g1:=⟨fun H O v T p σ Q b e q=>by
 cases e
 refine q [some v] rfl rfl (fun i T e=>?_) ⟨fun i ts e=>?_,fun i ts e=>?_,fun i fz ts e=>?_⟩
 ·cases i with
  |zero=>cases e; exact⟨v,rfl,b⟩
  |succ i=>simp at e
 ·cases i with
  |zero=>cases e
  |succ i=>simp at e
 ·cases i with
  |zero=>cases e
  |succ i=>simp at e
 ·cases i with
  |zero=>cases e
  |succ i=>simp at e⟩
theorem compG2:CompG K 2 (gTup K 2 (gCons (gName 0) (gCons (gName 1) gNil))) g2:=⟨fun H O v T p σ Q b e q=>by
 unfold g2 at e
 split at e
 ·cases e
  cases b with
  |tup e' b' =>
   obtain⟨v1,v2,rfl,b1,b2⟩:=b'.two
   refine⟨_,_,rfl,(less_sub H O).seqT e',rfl,v1,_,rfl,v2,_,rfl,rfl,?_⟩
   refine q [some v1,some v2] rfl rfl (fun i T e=>?_) ⟨fun i ts e=>?_,fun i ts e=>?_,fun i fz ts e=>?_⟩
   ·cases i with
    |zero=>cases e; exact⟨v1,rfl,b1⟩
    |succ i=>cases i with
     |zero=>cases e; exact⟨v2,rfl,b2⟩
     |succ i=>simp at e
   ·cases i with
    |zero=>cases e
    |succ i=>cases i with
     |zero=>cases e
     |succ i=>simp at e
   ·cases i with
    |zero=>cases e
    |succ i=>cases i with
     |zero=>cases e
     |succ i=>simp at e
   ·cases i with
    |zero=>cases e
    |succ i=>cases i with
     |zero=>cases e
     |succ i=>simp at e
 ·cases e⟩
structure ItOkC (K:PySem.W.Frag)(J:It)(B:Hp)(O:Hid)(ts:List Th):Prop where
 go:∀ i H,Same B H→i<ts.length→J.go i H
 stop:∀ H,Same B H→J.stop ts.length H
 yld:∀ i H x H',i<ts.length→Same B H→(∀ p,H p=none→¬ O.has p)→J.yld i H x H'→Same H H'∧∃ T,ts[i]?=some T∧Bears K (less H' O) x T
def liftIC (K:PySem.W.Frag)(f:FL):TI:=fun σ H R=>∃ O d ts,Rep K H O σ d∧f d=some ts∧∀ J H',Same H H'→ItOkC K J H' O ts→R J H'
theorem it_c {f:FL}:∀ σ H R,liftIC K f σ H R→liftI K f σ H R:=fun σ H R ⟨O,d,ts,r,e,q⟩=>⟨O,d,ts,r,e,fun J H' s ok=>q J H' s
 ⟨fun i H2 s2 hi=>ok.go i H2 ((low_sub H' O).trans s2) hi,fun H2 s2=>ok.stop H2 ((low_sub H' O).trans s2),fun i H2 x H3 hi s2 hn hy=>ok.yld i H2 O x H3 hi rfl (low_mono s2) hn hy⟩⟩
theorem Rep.hid {H:Hp}{O:Hid}{σ:St}{d:Sd}(r:Rep K H O σ d):∀ m:Option Nat,Rep K H O (hidS m σ) (hidS m d)
 |none=>r
 |some j=>by
  have ne:∀ {i:Nat} {D:Dv},(d.set j none)[i]?=some (some D)→j≠i∧d[i]?=some (some D):=by
   intro i D e
   by_cases z:j=i
   ·subst z
    by_cases q:j<d.length
    ·rw[List.getElem?_set_self q] at e; cases e
    ·rw[List.getElem?_eq_none (by rw[List.length_set]; lia)] at e; cases e
   ·rw[List.getElem?_set_ne z] at e; exact⟨z,e⟩
  show Rep K H O (σ.set j none) (d.set j none)
  refine { len:=by rw[List.length_set,List.length_set]; exact r.len,th:=fun i T e=>?_,own:=fun i ts e=>?_,there:=r.there,inj:=r.inj,exc:=fun i c e=>?_,dct:=fun i fz kvs e=>?_ }
  ·obtain⟨z,e⟩:=ne e
   rw[List.getElem?_set_ne z]; exact r.th i T e
  ·obtain⟨z,e⟩:=ne e
   rw[List.getElem?_set_ne z]; exact r.own i ts e
  ·obtain⟨z,e⟩:=ne e
   rw[List.getElem?_set_ne z]; exact r.exc i c e
  ·obtain⟨z,e⟩:=ne e
   rw[List.getElem?_set_ne z]; exact r.dct i fz kvs e
def fCompH (m:Option Nat)(g:Th→Option (List (Option Dv)))(fi:FL)(ft:FB)(fe:FD):FL:=fun d=>(fi d).bind fun ts=>if ts.length≤1000000 then compL g ft fe (hidS m d) ts else none
theorem comp_liftH {m:Option Nat}{k:Nat}{g:TG}{gd:Th→Option (List (Option Dv))}(G:CompG K k g gd){fi:FL}{ft:FB}{fe:FD}:∀ σ H Q,liftF K (fCompH m gd fi ft fe) σ H Q→tCompH m k (liftIC K fi) g (liftT K ft) (liftD K fe) σ H Q:=fun σ H Q ⟨O,d,us,R,e,q⟩=>by
 unfold fCompH at e
 cases hfi:fi d with
 |none=>rw[hfi] at e; cases e
 |some ts =>
  rw[hfi] at e
  change (if ts.length≤1000000 then compL gd ft fe (hidS m d) ts else none)=some us at e
  split at e
  ·rename_i hz
   refine⟨O,d,ts,R,hfi,?_⟩
   replace R:=R.hid m
   generalize hidS m d=d at R e
   generalize hidS m σ=σ at R
   refine fun J H1 s1 ok=>⟨fun i m ys H'=>m=ts.length-i∧i≤ts.length∧Same H1 H'∧ys.length≤i∧∃ as rest,BearsL K (less H' O) ys as∧compL gd ft fe d (ts.drop i)=some rest∧as++rest=us,⟨ts.length,rfl,Nat.zero_le _,Same.refl _,Nat.le_refl _,[],us,.nil,e,rfl⟩,?_⟩
   rintro i m ys H' ⟨rfl,hi,s',hy,as,rest,b,er,eu⟩
   refine⟨Nat.le_trans hy (Nat.le_trans hi (Nat.le_trans hz (by decide))),?_⟩
   have R':Rep K H' O σ d:=R.mono (s1.trans s')
   by_cases hlt:i<ts.length
   ·rw[List.drop_eq_getElem_cons hlt] at er
    unfold compL at er
    cases hg:gd ts[i] with
    |none=>rw[hg] at er; cases er
    |some p =>
     rw[hg] at er
     change ((ft (p++d)).bind _)=_ at er
     refine .inr ⟨ok.go i H' s' hlt,fun x Hx hyl=>?_⟩
     obtain⟨sx,T,hT,bx⟩:=ok.yld i H' x Hx hlt s' (fun p hp=>R'.notOwn hp) hyl
     rw[List.getElem?_eq_getElem hlt] at hT
     cases hT
     refine G.run Hx O x _ p σ _ bx hg fun pre hpl hpd hb hn=>?_
     obtain⟨RS,hle⟩:=(R'.mono sx).shift pre p (by lia) hb hn
     refine⟨⟨by rw[List.length_append,hpl],by rw[← hpl,List.drop_left]⟩,?_⟩
     cases hft:ft (p++d) with
     |none=>rw[hft] at er; cases er
     |some c =>
      rw[hft] at er
      refine⟨_,_,c,RS,hft,fun H3 s3=>?_⟩
      cases c with
      |false =>
       rw[if_neg Bool.false_ne_true] at *
       refine⟨ts.length-(i+1),by lia,rfl,hlt,(s'.trans sx).trans s3,Nat.le_succ_of_le hy,as,rest,b.mono (less_mono (sx.trans s3)),er,eu⟩
      |true =>
       rw[if_pos rfl] at *
       cases hfe:fe (p++d) with
       |none=>rw[show (some true).bind (fun c=>if c=true then (fe (p++d)).bind fun y=>(compL gd ft fe d (ts.drop (i+1))).bind fun ys=>some (y::ys) else compL gd ft fe d (ts.drop (i+1)))=(fe (p++d)).bind fun y=>(compL gd ft fe d (ts.drop (i+1))).bind fun ys=>some (y::ys) from rfl,hfe] at er; cases er
       |some y =>
        rw[show (some true).bind (fun c=>if c=true then (fe (p++d)).bind fun y=>(compL gd ft fe d (ts.drop (i+1))).bind fun ys=>some (y::ys) else compL gd ft fe d (ts.drop (i+1)))=(fe (p++d)).bind fun y=>(compL gd ft fe d (ts.drop (i+1))).bind fun ys=>some (y::ys) from rfl,hfe] at er
        cases hr:compL gd ft fe d (ts.drop (i+1)) with
        |none=>rw[hr] at er; cases er
        |some rs =>
         rw[hr] at er
         cases er
         refine⟨_,_,y,RS.mono s3,hfe,fun v H4 s4 b4=>⟨ts.length-(i+1),by lia,rfl,hlt,((s'.trans sx).trans s3).trans s4,by rw[List.length_append]; simp; lia,as++[y],rs,?_,hr,by rw[List.append_assoc]; exact eu⟩⟩
         have b4':Bears K (less H4 O) v y:=by
          have:less H4 ⟨O.own.map fun p=>(pre.length+p.1,p.2),O.far⟩=less H4 O:=((R'.mono ((sx.trans s3).trans s4)).shift pre p (by lia) (fun i T e=>let ⟨v,h1,h2⟩:=hb i T e; ⟨v,h1,h2.mono (less_mono (s3.trans s4))⟩) hn).2
          rw[← this]; exact b4
         exact (b.mono (less_mono ((sx.trans s3).trans s4))).append (.cons b4' .nil)
   ·have e1:i=ts.length:=by lia
    subst e1
    rw[List.drop_length] at er
    cases er
    rw[List.append_nil] at eu
    subst eu
    refine .inl ⟨ok.stop H' s',fun D hD=>q _ _ ((s1.trans s').trans (Same.upd hD)) ?_⟩
    exact⟨D,ys,rfl,(s1.trans s').free hD,upd_same,b.mono (less_new (Same.upd hD) hD)⟩
  ·cases e
theorem comp_lift {k:Nat}{g:TG}{gd:Th→Option (List (Option Dv))}(G:CompG K k g gd){fi:FL}{ft:FB}{fe:FD}:∀ σ H Q,liftF K (fComp gd fi ft fe) σ H Q→tComp k (liftIC K fi) g (liftT K ft) (liftD K fe) σ H Q:=comp_liftH (m:=none) G
end
section
variable {X:Cx}
theorem PIf.imp {X:Cx}{ifs:List Expr}{t t':TT}(h:PIf X ifs t)(i:∀ σ H Q,t' σ H Q→t σ H Q):PIf X ifs t':=fun pins s σ H Q I q=>h pins s σ H Q I (i σ H Q q)
def PDIf (X:Cx)(ifs:List Expr)(f:FB):Prop:=PIf X ifs (liftT X.K f)
theorem pdif_nil:PDIf X [] fTrue:=PIf.imp pif_nil fun σ H Q ⟨O,d,b,R,e,q⟩=>by cases e; exact q H (Same.refl H)
theorem pdif_one {c:Expr}{f:FB}(h:PDT X c f):PDIf X [c] f:=pif_one h
theorem pf_comp1 {x:Str}{px pos:Pos}{scope:Scope}{elt iter:Expr}{ifs:List Expr}{fi:FL}{ft:FB}{fe:FD}(hc:X.calm=true)(S:CompScope X [x] scope)(hN:([x]++X.N).Nodup)(hx:scope.names.lookup x=some .local)(hi:PDI X (.Name x px) iter fi)
  (ht:∀ cl s₂ H1 C fp,PDIf (cxC X [x] scope cl s₂ H1 C fp) ifs ft) (he:∀ cl s₂ H1 C fp,PD (cxC X [x] scope cl s₂ H1 C fp) elt fe) (hs:∀ x,foldedSetIterable iter X.env x=pure x:=by intro _; rfl) :
  PF X (.ListComp elt [⟨.Name x px,iter,ifs,0⟩] scope pos) (fComp g1 fi ft fe) :=
 PE.imp (pe_comp (tt:=liftT X.K ft) (te:=liftD X.K fe) hc S (PI.imp hi it_c) (fun cl s₂ H1 C fp=>pg_name (i:=0) hN rfl (Or.inl (lookup_relabel_local hx)) (.inr (lookup_relabel_local hx))) ht he hs) (comp_lift compG1)
theorem pds_comp1T {x y:Str}{px py pos spos:Pos}{scope:Scope}{elt iter:Expr}{ifs:List Expr}{fi:FL}{ft:FB}{fe:FD}{i:Nat}(hN0:X.N.Nodup)(hi':X.N[i]?=some y)(hy:Loc X.env.scope y)(hc:X.calm=true)(S:CompScope X [x] scope)(hN:([x]++X.N).Nodup)(hx:scope.names.lookup x=some .local)(hi:PDI X (.Name x px) iter fi)
  (ht:∀ cl s₂ H1 C fp,PDIf (cxC X [x] scope cl s₂ H1 C fp) ifs ft) (he:∀ cl s₂ H1 C fp,PD (cxC X [x] scope cl s₂ H1 C fp) elt fe)
  (hsw:swapsWith (.ListComp elt [⟨.Name x px,iter,ifs,0⟩] scope pos) (some (.Name y py)) spos.line X.env=pure true:=by rfl)
  (hf':X.fn y=true∨X.env.scope.names.lookup y=some .local:=by first | exact .inl rfl | exact .inr rfl | assumption)
  (hs:∀ x,foldedSetIterable iter X.env x=pure x:=by intro _; rfl) :
  PDS X (.Assign [.Name y py] (.ListComp elt [⟨.Name x px,iter,ifs,0⟩] scope pos) spos) (fSet i (fLst (fComp g1 fi ft fe))) :=
 PS.imp (ps_comp (tt:=liftT X.K ft) (te:=liftD X.K fe) hN0 hi' hy hc S (PI.imp hi it_c) (fun cl s₂ H1 C fp=>pg_name (i:=0) hN rfl (Or.inl (lookup_relabel_local hx)) (.inr (lookup_relabel_local hx))) ht he hsw hf' hs) fun D σ H h=>by
  obtain⟨O,d,o,R,e,q⟩:=h
  unfold fSet fLst at e
  cases hf:fComp g1 fi ft fe d with
  |none=>rw[hf] at e; cases e
  |some ts =>
   rw[hf] at e
   cases e
   refine comp_lift compG1 σ H _ ⟨O,d,ts,R,hf,fun v H' s b=>?_⟩
   obtain⟨a,xs,rfl,e2,e3,b⟩:=b
   exact q _ H' O rfl (low_mono s) ((R.mono s).set i (.lst (SqL.of (less_of e3 (R.notOwn e2))) (b.mono less_cons_sub)))
end
def spF (K:PySem.W.Frag)(φ:List Th→Option Th):Sp:=fun vs H Q _=>∃ (Z:Addr→Prop) (Ts:List Th) (T:Th),(∀ b,Z b→∃ o,H b=some o)∧BearsL K (less H ⟨[],Z⟩) vs Ts∧φ Ts=some T∧∀ v H',Same H H'→Bears K (less H' ⟨[],Z⟩) v T→Q v H'
structure Callee (P:Program)(w:World)(K:PySem.W.Frag)(mg:Str→Option Value)(base:Heap)(k:Nat)(x:Str)(φ:List Th→Option Th):Prop where
 ex:∃ (f:Addr) (fd:FuncData) (ps:List Str),FnOk P w K mg base CX0 k f fd ps (spF K φ)∧mg x=some (.ref f)∧PySem.W.keepIn K (.ref f)=true∧Binds K fd ps []
theorem Callee.mono {P:Program}{w:World}{K:PySem.W.Frag}{mg:Str→Option Value}{base:Heap}{k j:Nat}{x:Str}{φ:List Th→Option Th}(c:Callee P w K mg base k x φ)(h:k≤j):Callee P w K mg base j x φ :=
 let ⟨f,fd,ps,F,r⟩:=c.ex; ⟨f,fd,ps,F.mono h,r⟩
theorem less_has {H:Hp}{O:Hid}:less H ⟨[],O.has⟩=less H O:=by
 have hh:∀ b,Hid.has ⟨[],O.has⟩ b↔O.has b:=fun b=>⟨fun z=>z.elim (fun q=>by simp at q) id,fun z=>.inr z⟩
 funext b
 unfold less
 by_cases z:O.has b
 ·rw[if_pos z,if_pos ((hh b).mpr z)]
 ·rw[if_neg z,if_neg (fun q=>z ((hh b).mp q))]
theorem low_bare {H:Hp}{Z:Addr→Prop}:low H ⟨[],Z⟩=H:=by funext b; simp[low]
theorem less_none {H:Hp}:less H ⟨[],fun _=>False⟩=H:=by funext b; simp[less,Hid.has]
section
variable {X:Cx}{x:Str}{p pos:Pos}{e:Expr}{es:List Expr}{g:FL}{φ:List Th→Option Th}{k:Nat}
def fCall (φ:List Th→Option Th)(g:FL):FD:=fun d=>(g d).bind φ
theorem pd_call (c:Callee X.prog X.w X.K X.mg X.base k x φ) (hr:Room k X.A) (hg:Gl X x) (ha:PDA X (e::es) g) (hdb:(x == ("__debug__":Str))=false:=by decide) (he:starEach (e::es) X.env=(false,eval e X.env)::starEach es X.env:=by rfl) (hpl:(backTo pos (starEach es X.env)).any (·.1)=false:=by rfl) :
  PD X (.Call (.Name x p) (e::es) [] pos) (fCall φ g):=by
 obtain⟨f,fd,ps,F,hm,hk,hb⟩:=c.ex
 refine PE.imp (pe_call F hr hg hm hk hb .nil pass0 ha hdb he hpl) fun σ H Q ⟨O,d,T,R,e,q⟩=>?_
 unfold fCall at e
 cases hgd:g d with
 |none=>rw[hgd] at e; cases e
 |some Ts =>
  rw[hgd] at e
  refine⟨O,d,Ts,R,hgd,fun vs H1 s1 b=>?_⟩
  show spF X.K φ (vs++[]) H1 Q E0
  rw[List.append_nil]
  refine⟨O.has,Ts,T,fun a ha=>(R.mono s1).there a ha,by rw[less_has]; exact b,e,fun v H' s' b'=>q v H' (s1.trans s') ?_⟩
  rw[less_has] at b'
  exact b'
end
def startD (N:List Str)(Ts:List Th):Sd:=Ts.map (fun T=>some (.th T))++List.replicate (N.length-Ts.length) none
theorem rep_start {K:PySem.W.Frag}{H:Hp}{O:Hid}{N:List Str}{vs:List V}{Ts:List Th}(b:BearsL K (less H O) vs Ts)(ho:O.own=[])(hz:∀ a,O.far a→∃ o,H a=some o):Rep K H O (start N vs) (startD N Ts) where
 len:=by unfold start startD; rw[List.length_append,List.length_append,List.length_map,List.length_map,List.length_replicate,List.length_replicate,b.length]
 th:=fun i T e=>by
  unfold startD at e
  by_cases hi:i<Ts.length
  ·rw[List.getElem?_append_left (by simpa using hi),List.getElem?_map] at e
   cases hT:Ts[i]? with
   |none=>rw[hT] at e; cases e
   |some U =>
    rw[hT] at e
    cases e
    obtain⟨v,h1,h2⟩:=b.get hT
    refine⟨v,?_,h2⟩
    unfold start
    rw[List.getElem?_append_left (by rw[List.length_map,b.length]; exact hi),List.getElem?_map,h1]
    rfl
  ·rw[List.getElem?_append_right (by simpa using hi),List.getElem?_replicate] at e
   split at e <;> cases e
 own:=fun i ts e=>by
  unfold startD at e
  by_cases hi:i<Ts.length
  ·rw[List.getElem?_append_left (by simpa using hi),List.getElem?_map] at e
   cases hT:Ts[i]? with
   |none=>rw[hT] at e; cases e
   |some U=>rw[hT] at e; cases e
  ·rw[List.getElem?_append_right (by simpa using hi),List.getElem?_replicate] at e
   split at e <;> cases e
 there:=fun a h=>h.elim (fun q=>by rw[ho] at q; simp at q) (hz a)
 inj:=fun i j a h=>by rw[ho] at h; simp at h
 dct:=fun i fz kvs e=>by
  unfold startD at e
  by_cases hi:i<Ts.length
  ·rw[List.getElem?_append_left (by simpa using hi),List.getElem?_map] at e
   cases hT:Ts[i]? with
   |none=>rw[hT] at e; cases e
   |some U=>rw[hT] at e; cases e
  ·rw[List.getElem?_append_right (by simpa using hi),List.getElem?_replicate] at e
   split at e <;> cases e
 exc:=fun i c e=>by
  unfold startD at e
  by_cases hi:i<Ts.length
  ·rw[List.getElem?_append_left (by simpa using hi),List.getElem?_map] at e
   cases hT:Ts[i]? with
   |none=>rw[hT] at e; cases e
   |some U=>rw[hT] at e; cases e
  ·rw[List.getElem?_append_right (by simpa using hi),List.getElem?_replicate] at e
   split at e <;> cases e
section
variable {P:Program}{w:World}{K:PySem.W.Frag}{mg:Str→Option Value}{base:Heap}
theorem Fun.okD {x qual:Str}{st:Stmt}{f:Addr}{fd:FuncData}{N ps:List Str}{k:Nat}{φ:List Th→Option Th}{body:FS}(F:Fun K x qual st f fd)(S:FnScope N ps (defScope st))
  (hb:∀ (cdv:Value) (A:Around) (outer:List Env) (s:Shared) (H:Hp) (E:XK),Room k (A.deeper (envOfC qual (defScope st) s.heap.objs.size f cdv))→PDSs (cxOf CX0 P w K mg base N qual (defScope st) f cdv A outer s H E).nox (defBody st) body)
  (hφ:∀ Ts T,φ Ts=some T→Ts.length=ps.length∧body (startD N Ts)=some (.rt T)):FnOk P w K mg base CX0 (k+1) f fd ps (spF K φ):=by
 refine F.ok S (fun vs H Q E ⟨Z,Ts,T,_,b,e,_⟩=>by rw[b.length]; exact (hφ Ts T e).1) fun cdv A outer s H vs Q E hr ⟨Z,Ts,T,hz,b,e,q⟩=>?_
 refine⟨_,hb cdv A outer s H E hr,⟨[],Z⟩,startD N Ts,.rt T,rep_start b rfl hz,(hφ Ts T e).2,fun v H' s' b'=>q v H' ?_ b'⟩
 rw[low_bare] at s'
 exact s'
theorem Fun.callee {x qual:Str}{st:Stmt}{f:Addr}{fd:FuncData}{ps:List Str}{k:Nat}{φ:List Th→Option Th}(F:Fun K x qual st f fd)(G:FnOk P w K mg base CX0 k f fd ps (spF K φ))(hm:mg x=some (.ref f))(hb:Binds K fd ps []):Callee P w K mg base k x φ:=⟨f,fd,ps,G,hm,F.kp,hb⟩
end
def smallN (n:Nat):Bool:=decide (n≤1000000)
theorem smallN_le {n:Nat}(h:smallN n=true):n≤sizeLine:=Nat.le_trans (of_decide_eq_true h) (by decide)
section
variable {X:Cx}{K:PySem.W.Frag}{a b c e:Expr}{fa fb fc f:FD}{pos:Pos}
def rCatT0 (K:PySem.W.Frag):R2:=fun x y H Q=>∃ a b ys,x=.ref a∧y=.ref b∧SqT K H a []∧SqT K H b ys∧Q (.ref b) H
theorem op_catT0:OpR X (binaryOp .Add) (rCatT0 X.K):=by
 intro pins s σ H x y v u Q I rx ry h
 obtain⟨a,b,ys,rfl,rfl,ha,hb,q⟩:=h
 cases rx
 cases ry
 obtain⟨its,r1,p1,_⟩:=I.tuple ha
 obtain⟨its2,r2,p2,_⟩:=I.tuple hb
 cases r1
 obtain⟨⟨cls,dd,data,sl⟩,ho,hc,n,hd⟩:=id p1
 obtain⟨⟨cls2,dd2,data2,sl2⟩,ho2,hc2,n2,hd2⟩:=id p2
 simp only at hc hd hc2 hd2
 subst hc hd hc2 hd2
 exact concat_meets ⟨_,ho,rfl⟩ ⟨_,ho2,rfl⟩ noFill_tuple_add seq_tuple_add PySem.F.slot_tuple_add PySem.F.entry_tuple_add (PySem.F.args_tuple_add_2 _ _)
   (tuple_addW0 a b _ its2.toArray n n2 dd dd2 sl sl2 (by simp)) ⟨ho,ho2,⟨.ref b,H,I,rfl,q⟩⟩
def oAdd:Th→Th→Option Th
 |.int i,.int j=>some (.int (i+j))
 |.str x,.str y=>if smallN (x.length+y.length)=true then some (.str (x++y)) else none
 |.tup xs,.tup ys=>if smallN (xs.length+ys.length)=true then some (.tup (xs++ys)) else none
 |_,_=>none
def rAddA (K:PySem.W.Frag):R2:=fun x y H Q=>rI0 (fun i j=>.int (i+j)) x y H Q∨(∃ i j,x=.str i∧y=.str j∧i.length+j.length≤sizeLine∧Q (.str (i++j)) H)∨rCatT K x y H Q∨rCatT0 K x y H Q
theorem op_addA:OpR X (binaryOp .Add) (rAddA X.K):=op_add.or (op_add_str.or (op_catT.or op_catT0))
theorem opD_add:OpD K (rAddA K) oAdd:=fun H O v u x y z Q hn hx hy e q=>by
 unfold oAdd at e
 split at e
 ·cases e
  exact .inl ⟨_,_,hx.int,hy.int,q _ H (Same.refl H) (.int _)⟩
 ·split at e
  ·cases e
   exact .inr (.inl ⟨_,_,hx.str,hy.str,smallN_le ‹_›,q _ H (Same.refl H) (.str _)⟩)
  ·cases e
 ·split at e
  ·rename_i hz
   cases e
   obtain⟨a,xs,rfl,h1,b1⟩:=hx.tup
   obtain⟨b,ys,rfl,h2,b2⟩:=hy.tup
   have z:=smallN_le hz
   rw[← b1.length,← b2.length] at z
   by_cases hxs:xs=[]
   ·subst hxs
    cases b1
    exact .inr (.inr (.inr ⟨a,b,ys,rfl,rfl,(less_sub H O).seqT h1,(less_sub H O).seqT h2,q _ H (Same.refl H) (.tup h2 b2)⟩))
   ·refine .inr (.inr (.inl ⟨a,b,xs,ys,rfl,rfl,(less_sub H O).seqT h1,(less_sub H O).seqT h2,hxs,z,fun hys=>?_,fun hys p hp=>?_⟩))
    ·subst hys
     cases b2
     rw[List.append_nil] at q
     exact q _ H (Same.refl H) (.tup h1 b1)
    ·exact q _ _ (Same.upd hp) (.tup (SqT.of (less_of upd_same (hn p hp))) ((b1.append b2).mono (less_mono (Same.upd hp))))
  ·cases e
 ·cases e
def oSub:Th→Th→Option Th
 |.int i,.int j=>some (.int (i-j))
 |_,_=>none
theorem pd_sub (ha:PB X a fa)(hb:PB X b fb):PD X (.BinOp a .Sub b pos) (f2 oSub fa fb):=pd_op op_sub (fun H O v u x y z Q _ hx hy e q=>by
 unfold oSub at e
 split at e
 ·cases e
  exact⟨_,_,hx.int,hy.int,q _ H (Same.refl H) (.int _)⟩
 ·cases e) ha hb
def oDiv:Th→Th→Option Th
 |.int i,.int j=>if decide (0<j∧j<1073741824)=true then some (.int (i / j)) else none
 |_,_=>none
def oMod:Th→Th→Option Th
 |.int i,.int j=>if decide (0<j)=true then some (.int (i%j)) else none
 |_,_=>none
theorem pd_fdiv (ha:PB X a fa)(hb:PB X b fb):PD X (.BinOp a .FloorDiv b pos) (f2 oDiv fa fb):=pd_op op_fdiv (fun H O v u x y z Q _ hx hy e q=>by
 unfold oDiv at e
 split at e
 ·split at e
  ·rename_i hc
   have hc:=of_decide_eq_true hc
   cases e
   exact⟨_,_,hx.int,hy.int,hc,q _ H (Same.refl H) (.int _)⟩
  ·cases e
 ·cases e) ha hb
theorem pd_mod (ha:PB X a fa)(hb:PB X b fb):PD X (.BinOp a .Mod b pos) (f2 oMod fa fb):=pd_op op_mod (fun H O v u x y z Q _ hx hy e q=>by
 unfold oMod at e
 split at e
 ·split at e
  ·rename_i hc
   have hc:=of_decide_eq_true hc
   cases e
   exact⟨_,_,hx.int,hy.int,hc,q _ H (Same.refl H) (.int _)⟩
  ·cases e
 ·cases e) ha hb
def fNeg (fa:FD):FD:=fun d=>(fa d).bind fun x=>match x with | .int i=>some (.int (-i)) | _=>none
theorem pd_neg (ha:PD X a fa):PD X (.UnaryOp .USub a pos) (fNeg fa):=PE.imp (pe_un un_neg ha) fun σ H Q ⟨O,d,T,R,e,q⟩=>by
 unfold fNeg at e
 cases hf:fa d with
 |none=>rw[hf] at e; cases e
 |some x =>
  rw[hf] at e
  cases x with
  |int i=>cases e; exact⟨O,d,.int i,R,hf,fun v H' s b=>by cases b; exact⟨i,rfl,q _ H' s (.int _)⟩⟩
  |_=>cases e
def rMulS:R2:=fun x y H Q=>∃ z j,x=.str z∧y=.int j∧MulOk z j∧Q (.str (Txt.mul z j)) H
theorem op_mulS:OpR X (binaryOp .Mult) rMulS:=by
 intro pins s σ H x y v u Q I rx ry h
 obtain⟨z,j,rfl,rfl,hok,q⟩:=h
 obtain⟨t,rfl⟩:=rx
 obtain⟨t',rfl⟩:=ry
 exact SB.mul hok fun t' k=>⟨.str _,H,I.tok _,⟨_,rfl⟩,q⟩
theorem mulOk_of {x:Str}{j:Int}(h0:0≤j)(h1:j≤1000000)(h:x.length*j.toNat≤1000000):MulOk x j:=by
 refine⟨?_,fun h2 h3=>?_,fun h2 h3=>?_⟩
 ·rw[decide_eq_false (by lia),decide_eq_false (by lia)]; rfl
 ·have h4:(x.length:Int)*j≤1000000:=by
   have:((x.length*j.toNat:Nat):Int)≤1000000:=by lia
   rw[Int.natCast_mul,Int.toNat_of_nonneg h0] at this
   exact this
  have h5:(x.length:Int)≤(2 ^ 63-1) / j:=by
   rw[Int.le_ediv_iff_mul_le (by lia)]
   lia
  lia
 ·have:¬ x.length*j.toNat > 2 ^ 24:=by lia
  simpa [Builtin.Str.tooLong,sizeLine] using this
def oMul:Th→Th→Option Th
 |.int i,.int j=>if decide ((-(2 ^ 64)<i∧i<2 ^ 64)∨(-(2 ^ 64)<j∧j<2 ^ 64))=true then some (.int (i*j)) else none
 |.str x,.int j=>if decide (0≤j∧j≤1000000∧x.length*j.toNat≤1000000)=true then some (.str (Txt.mul x j)) else none
 |_,_=>none
def rMulA:R2:=fun x y H Q=>rI CMul (fun i j=>.int (i*j)) x y H Q∨rMulS x y H Q
theorem op_mulA:OpR X (binaryOp .Mult) rMulA:=op_mul.or op_mulS
theorem opD_mul:OpD K rMulA oMul:=fun H O v u x y z Q _ hx hy e q=>by
 unfold oMul at e
 split at e
 ·split at e
  ·rename_i hc
   have hc:=of_decide_eq_true hc
   cases e
   exact .inl ⟨_,_,hx.int,hy.int,hc,q _ H (Same.refl H) (.int _)⟩
  ·cases e
 ·split at e
  ·rename_i hc
   obtain⟨h0,h1,h2⟩:=of_decide_eq_true hc
   cases e
   exact .inr ⟨_,_,hx.str,hy.int,mulOk_of h0 h1 h2,q _ H (Same.refl H) (.str _)⟩
  ·cases e
 ·cases e
def CallD (K:PySem.W.Frag)(r:List V→Hp→VK→Prop)(g:List Th→Option Th):Prop:=∀ (H:Hp) (O:Hid) (vs:List V) (ts:List Th) (z:Th) (Q:VK),(∀ p,H p=none→¬ O.has p)→Paired (Lent K H O) vs ts→g ts=some z→(∀ v' H',Same H H'→Bears K (less H' O) v' z→Q v' H')→r vs H Q
def fCB (g:List Th→Option Th)(fs:FL):FD:=fun d=>(fs d).bind g
theorem cb_lift {r:List V→Hp→VK→Prop}{g:List Th→Option Th}{fs:FL}(hr:CallD K r g):∀ σ H Q,liftD K (fCB g fs) σ H Q→tCB r (liftAB K fs) σ H Q:=fun σ H Q ⟨O,d,T,R,e,q⟩=>by
 unfold fCB at e
 cases hf:fs d with
 |none=>rw[hf] at e; cases e
 |some ts =>
  rw[hf] at e
  exact⟨O,d,ts,R,hf,fun vs H1 s1 b1=>hr H1 O vs ts T Q (fun p hp=>(R.mono s1).notOwn hp) b1 e fun v H' s b=>q v H' (s1.trans s) b⟩
theorem pd_callB' {id:String}{x:Str}{p:Pos}{es:List Expr}{fs:FL}{r:List V→Hp→VK→Prop}{g:List Th→Option Th}(hc:CallR X (.builtin id) r)(hr:CallD X.K r g)(hg:Gl X x)(hm:X.mg x=none)(hv:bootBuiltins x=some (.builtin id))(ha:PBA X (e::es) fs)
  (hn:x≠"__name__":=by decide) (hdb:(x == ("__debug__":Str))=false:=by decide) (he:starEach (e::es) X.env=(false,eval e X.env)::starEach es X.env:=by rfl) (hpl:(backTo pos (starEach es X.env)).any (·.1)=false:=by rfl) :
  PD X (.Call (.Name x p) (e::es) [] pos) (fCB g fs):=PE.imp (pe_callB hc hg hm hv ha hn hdb he hpl) (cb_lift hr)
def oLen:List Th→Option Th
 |[.str x]=>if smallN x.length=true then some (.int x.length) else none
 |[.lst ts]=>some (.int ts.length)
 |[.tup ts]=>some (.int ts.length)
 |_=>none
def rLenA (K:PySem.W.Frag):List V→Hp→VK→Prop:=fun xs H Q=>(∃ p ys,xs=[.ref p]∧(SqL K H p ys∨SqT K H p ys)∧Q (.int ys.length) H)∨∃ z,xs=[.str z]∧z.length≤sizeLine∧Q (.int z.length) H
theorem call_lenA:CallR X (.builtin "len") (rLenA X.K):=call_len_seq.or call_len_str
theorem paired1 {α β:Type}{F:α→β→Prop}{xs:List α}{y:β}(h:Paired F xs [y]):∃ x,xs=[x]∧F x y:=by
 cases h with | cons h r=>cases r; exact⟨_,rfl,h⟩
theorem paired2 {α β:Type}{F:α→β→Prop}{xs:List α}{y z:β}(h:Paired F xs [y,z]):∃ x w,xs=[x,w]∧F x y∧F w z:=by
 cases h with | cons h r=>cases r with | cons h2 r2=>cases r2; exact⟨_,_,rfl,h,h2⟩
theorem callD_len:CallD K (rLenA K) oLen:=fun H O vs ts z Q hn h e q=>by
 unfold oLen at e
 split at e
 ·obtain⟨v,rfl,h1⟩:=paired1 h
  split at e
  ·cases e
   exact .inr ⟨_,by rw[h1.str],smallN_le ‹_›,q _ H (Same.refl H) (.int _)⟩
  ·cases e
 ·obtain⟨v,rfl,h1⟩:=paired1 h
  cases e
  obtain⟨a,xs,rfl,h2,b⟩:=h1.lst
  refine .inl ⟨a,xs,rfl,.inl h2,q _ H (Same.refl H) ?_⟩
  rw[b.length]; exact .int _
 ·obtain⟨v,rfl,h1⟩:=paired1 h
  cases e
  obtain⟨a,xs,rfl,h2,b⟩:=h1.tup
  refine .inl ⟨a,xs,rfl,.inr ((less_sub H O).seqT h2),q _ H (Same.refl H) ?_⟩
  rw[b.length]; exact .int _
 ·cases e
theorem pd_len {p:Pos} {es:List Expr} {fs:FL} (hg:Gl X "len") (hm:X.mg "len"=none) (ha:PBA X (e::es) fs) (he:starEach (e::es) X.env=(false,eval e X.env)::starEach es X.env:=by rfl) (hpl:(backTo pos (starEach es X.env)).any (·.1)=false:=by rfl):PD X (.Call (.Name "len" p) (e::es) [] pos) (fCB oLen fs) :=
 pd_callB' call_lenA callD_len hg hm PySem.boot_len ha (by decide) (by decide) he hpl
end
end L2
namespace HT
open PySem PyProof.Rows
inductive KeyV:Value→L2.Key→Prop where
 |int (i:Int) (t:Tok):KeyV (.int i t) (.inl i)
 |str (x:Str) (t:Tok):KeyV (.str x t) (.inr x)
abbrev KeysAre:=Paired KeyV
def lexK:List L2.Key→List L2.Key→Option Bool
 |[],[]=>some false
 |[],_::_=>some true
 |_::_,[]=>some false
 |.inl a::xs,.inl b::ys=>if a=b then lexK xs ys else some (decide (a<b))
 |.inr a::xs,.inr b::ys=>if a=b then lexK xs ys else some (decide (a.cps.toList<b.cps.toList))
 |_::_,_::_=>none
theorem rcLt_str (A:Around)(s:Shared)(a:Str)(t:Tok)(c:Str)(u:Tok)(prog:Program)(w:World)(E:Value→Shared→Prop)(Q:Value→Shared→Prop)(h:Q (.bool (decide (a.cps.toList<c.cps.toList))) s) :
  wpAny (model prog w) A (richCompare .Lt (.str a t) (.str c u)) Q E s :=
 (PyProof.Rows.lt_str h:wpAny (model prog w) A (compareOp .Lt (.str a t) (.str c u)) Q E s)
section
open PySem.SeqAt
open PySem.AutoSeq1 (wpAny_loadPart')
open PySem.MeetsSeq PySem.MeetsSeq2 PySem.MeetsSeq3
theorem tuple_lt_keys (l b:Addr)(items items2:Array Value)(n n2:Nat)(dd dd2:Option Addr)(sl sl2:Array (Option Value))(ns ms:List L2.Key)(z:Bool)(hi:KeysAre items.toList ns)(hj:KeysAre items2.toList ms)(hz:lexK ns ms=some z) :
  Meets (Builtin.«tuple.__lt__» ⟨[.ref l,.ref b],[]⟩)
   (fun _ R s=>s.heap.get? l=some { cls:=.type "tuple",dict:=dd,data:=.seq items n,slots:=sl }∧s.heap.get? b=some { cls:=.type "tuple",dict:=dd2,data:=.seq items2 n2,slots:=sl2 } ∧
    R (.ok (.ret (.bool z))) s) :=
 .of_wp fun prog w A R s h=>by
  obtain⟨hp,g,d,tk,os⟩:=s; obtain⟨hl,hb,h⟩:=h
  have f2:=AutoSeq1.sub_tuple_tuple
  have z1:items.size=ns.length:=by rw[← hi.length]; simp
  have z2:items2.size=ms.length:=by rw[← hj.length]; simp
  wp_walk using wpAny_loadPart' hl,wpAny_loadPart' hb,wpAny_forIn_list _ (fun rest b s'=>b.1=none∧s'=⟨hp,g,d,tk,os⟩∧∃ (vs ws:List Value) (ns' ms':List L2.Key),rest=vs.zip ws ∧
   KeysAre vs ns'∧KeysAre ws ms'∧ns'.length+items2.size=ms'.length+items.size∧lexK ns' ms'=some z∧R (.ok (.ret (.bool z))) ⟨hp,g,d,tk,os⟩) _
  case turn =>
   rintro⟨y,x⟩ rest b s' ⟨hb',rfl,vs,ws,ns',ms',hz,hvi,hwi,hlen,hlx,hR⟩
   cases hvi with
   |nil=>rw[List.zip_nil_left] at hz; cases hz
   |cons k1 hvi' =>
    cases hwi with
    |nil=>rw[List.zip_nil_right] at hz; cases hz
    |cons k2 hwi' =>
     rw[List.zip_cons_cons] at hz
     injection hz with hyx hrest
     injection hyx with hy hx
     subst hy hx
     simp only[List.length_cons] at hlen
     cases k1 with
     |int a t =>
      cases k2 with
      |int c u =>
       unfold lexK at hlx
       obtain⟨e,he,hiff⟩:=eqAt_int A.in1 ⟨hp,g,d,tk,os⟩ a t c u
       refine wpAny_bind (he prog w _ _ ?_)
       cases e with
       |true =>
        rw[if_pos (hiff.mp rfl)] at hlx
        wp_walk
        exact⟨rfl,rfl,_,_,_,_,hrest,hvi',hwi',by lia,hlx,hR⟩
       |false =>
        rw[if_neg (fun q=>absurd (hiff.mpr q) Bool.false_ne_true)] at hlx
        cases hlx
        have hri:=rcLt_int A.in1 ⟨hp,g,d,tk,os⟩ a t c u prog w
        wp_walk using hri
        exact⟨_,rfl,by simpa using hR⟩
      |str c u=>unfold lexK at hlx; cases hlx
     |str a t =>
      cases k2 with
      |int c u=>unfold lexK at hlx; cases hlx
      |str c u =>
       unfold lexK at hlx
       refine wpAny_bind (SeqAt.EqAt.str_str a t c u prog w _ _ ?_)
       cases e:a == c with
       |true =>
        rw[if_pos (eq_of_beq e)] at hlx
        wp_walk
        exact⟨rfl,rfl,_,_,_,_,hrest,hvi',hwi',by lia,hlx,hR⟩
       |false =>
        rw[if_neg (fun q=>by rw[q] at e; simp at e)] at hlx
        cases hlx
        have hri:=rcLt_str A.in1 ⟨hp,g,d,tk,os⟩ a t c u prog w
        wp_walk using hri
        exact⟨_,rfl,by simpa using hR⟩
  case fin =>
   rintro⟨b1,b2⟩ s' ⟨hb',rfl,vs,ws,ns',ms',hz,hvi,hwi,hlen,hlx,hR⟩
   simp only at hb'
   subst hb'
   have hv:z=decide (items.size<items2.size):=by
    cases hvi with
    |nil =>
     cases hwi with
     |nil =>
      simp only[List.length_nil] at hlen
      cases hlx
      exact (decide_eq_false (by lia)).symm
     |cons k hw =>
      simp only[List.length_nil,List.length_cons] at hlen
      cases hlx
      exact (decide_eq_true (by lia)).symm
    |cons k hv =>
     cases hwi with
     |nil =>
      simp only[List.length_nil,List.length_cons] at hlen
      cases k <;> (cases hlx; exact (decide_eq_false (by lia)).symm)
     |cons k2 hw =>
      rw[List.zip_cons_cons] at hz
      cases hz
   rw[hv] at hR
   wp_walk
   exact⟨_,rfl,by simpa [Builtin.Tuple.tupleCompareSizes] using hR⟩
  case h =>
   exact⟨rfl,rfl,items.toList,items2.toList,ns,ms,rfl,hi,hj,by lia,hz,h⟩
end
section
variable {prog:Program}{w:World}{A:Around}{E:Value→Shared→Prop}{s:Shared}
theorem lt_tupKeys {l b:Addr}{items items2:Array Value}{ns ms:List L2.Key}{z:Bool}{Q:Value→Shared→Prop}(hl:IsTup s.heap l items)(hb:IsTup s.heap b items2)(hi:KeysAre items.toList ns)(hj:KeysAre items2.toList ms)(hz:lexK ns ms=some z)
  (hu:A.units<cLine) (h:Q (.bool z) s):wpAny (model prog w) A (compareOp .Lt (.ref l) (.ref b)) Q E s:=by
 obtain⟨⟨cls,dd,data,sl⟩,ho,hc,n,hd⟩:=id hl
 obtain⟨⟨cls2,dd2,data2,sl2⟩,ho2,hc2,n2,hd2⟩:=id hb
 simp only at hc hd hc2 hd2
 subst hc hd hc2 hd2
 exact richCompare_meets_room (op:=.Lt) ⟨_,ho,rfl⟩ ⟨_,ho2,rfl⟩ PySem.F.slot_tuple_lt PySem.F.entry_tuple_lt (PySem.F.args_tuple_lt_2 _ _) (tuple_lt_keys l b items items2 n n2 dd dd2 sl sl2 ns ms z hi hj hz)
  ⟨ho,ho2,show Value.bool z≠Value.notImplemented∧Q (.bool z) s from ⟨(fun x=>nomatch x),h⟩⟩ hu
end
end HT
namespace L2
open PySem PySem.Spec PyProof.Rows PySem.SeqAt
mutual
def eqTh:Th→Th→Bool
 |.non,.non=>true
 |.bl a,.bl b=>a == b
 |.int a,.int b=>a == b
 |.str a,.str b=>a == b
 |.bl a,.int b=>(if a then 1 else 0) == b
 |.int a,.bl b=>a == (if b then 1 else 0)
 |.tup xs,.tup ys=>eqThL xs ys
 |.lst xs,.lst ys=>eqThL xs ys
 |_,_=>false
def eqThL:List Th→List Th→Bool
 |[],[]=>true
 |x::xs,y::ys=>eqTh x y&&eqThL xs ys
 |_,_=>false
end
mutual
def dp:Th→Nat
 |.tup ts=>dpL ts+1
 |.lst ts=>dpL ts+1
 |_=>0
def dpL:List Th→Nat
 |[]=>0
 |t::r=>max (dp t) (dpL r)
end
theorem dp_mem:∀ {ts:List Th} {t:Th} {i:Nat},ts[i]?=some t→dp t≤dpL ts
 |[],_,_,e=>by simp at e
 |x::r,t,0,e=>by simp at e; subst e; unfold dpL; lia
 |x::r,t,i+1,e=>by
  have:=dp_mem (ts:=r) (t:=t) (i:=i) (by simpa using e)
  unfold dpL; lia
mutual
theorem eqTh_refl:∀ x:Th,eqTh x x=true
 |.non=>by simp[eqTh]
 |.bl a=>by simp[eqTh]
 |.int a=>by simp[eqTh]
 |.str a=>by simp[eqTh]
 |.tup xs=>by simp only[eqTh]; exact eqThL_refl xs
 |.lst xs=>by simp only[eqTh]; exact eqThL_refl xs
theorem eqThL_refl:∀ xs:List Th,eqThL xs xs=true
 |[]=>by simp[eqThL]
 |x::xs=>by simp only[eqThL,eqTh_refl x,eqThL_refl xs,Bool.and_self]
end
def eAt (xs ys:List Th)(j:Nat):Bool:=match xs[j]?,ys[j]? with | some x,some y=>eqTh x y | _,_=>true
theorem eAt_all:∀ xs ys:List Th,((List.range (min xs.length ys.length)).all (eAt xs ys)&&xs.length == ys.length)=eqThL xs ys
 |[],[]=>by simp[eqThL]
 |[],_::_=>by simp[eqThL]
 |_::_,[]=>by simp[eqThL]
 |x::xs,y::ys=>by
  have ih:=eAt_all xs ys
  have e:min (x::xs).length (y::ys).length=min xs.length ys.length+1:=by simp only[List.length_cons]; lia
  rw[e,List.range_succ_eq_map,List.all_cons,List.all_map]
  have e0:eAt (x::xs) (y::ys) 0=eqTh x y:=by simp[eAt]
  have e1:(eAt (x::xs) (y::ys)∘Nat.succ)=eAt xs ys:=by funext j; simp[eAt]
  rw[e0,e1,eqThL,← ih]
  simp only[List.length_cons,Bool.and_assoc]
  congr 2
  rw[Bool.eq_iff_iff]; simp
theorem eqThL_len:∀ {xs ys:List Th},eqThL xs ys=true→xs.length=ys.length
 |[],[],_=>rfl
 |[],_::_,h=>by simp[eqThL] at h
 |_::_,[],h=>by simp[eqThL] at h
 |x::xs,y::ys,h=>by
  rw[eqThL,Bool.and_eq_true] at h
  simp[eqThL_len h.2]
section
variable {X:Cx}{pins:List (Addr×Obj)}{σ:St}{H:Hp}{s:Shared}
theorem Inv.lt_ne (I:Inv X pins σ H s){a:Addr}{xs ys:List V}(h:SqL X.K H a xs)(h':SqT X.K H a ys):False:=by
 obtain⟨its,r,⟨o,n,e,c,_,d⟩,_⟩:=I.list h
 obtain⟨its',r',⟨o',e',c',n',d'⟩,_⟩:=I.tuple h'
 rw[e] at e'; cases e'
 rw[c] at c'
 simp at c'
theorem Bears.det (I:Inv X pins σ H s):∀ (n:Nat) {v:V} {x y:Th},dp x≤n→Bears X.K H v x→Bears X.K H v y→x=y:=by
 intro n
 induction n with
 |zero =>
  intro v x y hn h h'
  cases h with
  |non=>cases h'; rfl
  |bl b=>cases h'; rfl
  |int b=>cases h'; rfl
  |str b=>cases h'; rfl
  |tup e h=>unfold dp at hn; lia
  |lst e h=>unfold dp at hn; lia
 |succ n ihn =>
  have key:∀ {vs:List V} {ts us:List Th},dpL ts≤n→BearsL X.K H vs ts→BearsL X.K H vs us→ts=us:=by
   intro vs
   induction vs with
   |nil=>intro ts us _ h h'; cases h; cases h'; rfl
   |cons v vs ih =>
    intro ts us hd h h'
    cases h with
    |cons h r=>cases h' with
     |cons h' r' =>
      unfold dpL at hd
      rw[ihn (by lia) h h',ih (by lia) r r']
  intro v x y hn h h'
  cases h with
  |non=>cases h'; rfl
  |bl b=>cases h'; rfl
  |int b=>cases h'; rfl
  |str b=>cases h'; rfl
  |tup e h =>
   cases h' with
   |tup e2 h2 =>
    have q:=I.tuple_inj e e2
    subst q
    unfold dp at hn
    rw[key (by lia) h h2]
   |lst e2 h2=>exact (I.lt_ne e2 e).elim
  |lst e h =>
   cases h' with
   |lst e2 h2 =>
    have q:=I.list_inj e e2
    subst q
    unfold dp at hn
    rw[key (by lia) h h2]
   |tup e2 h2=>exact (I.lt_ne e e2).elim
theorem items_at {its its2:List Value}{xs ys:List V}{ts us:List Th}{A:Around}(r:Vals xs its)(r2:Vals ys its2)(b:BearsL X.K H xs ts)(b2:BearsL X.K H ys us)
  (k:∀ (x y:Th) (v u:V) (a b:Value) (i:Nat),ts[i]?=some x→Bears X.K H v x→Bears X.K H u y→RelV v a→RelV u b→EqAt A s a b (eqTh x y)) :
  ∀ j (h1:j<its.toArray.size) (h2:j<its2.toArray.size),EqAt A s its.toArray[j] its2.toArray[j] (eAt ts us j):=fun j h1 h2=>by
 have l1:=r.length
 have l2:=r2.length
 have l3:=b.length
 have l4:=b2.length
 simp only[List.size_toArray] at h1 h2
 obtain⟨a,ea,ra⟩:=r.get (i:=j) (x:=xs[j]'(by lia)) (List.getElem?_eq_getElem _)
 obtain⟨a2,ea2,ra2⟩:=r2.get (i:=j) (x:=ys[j]'(by lia)) (List.getElem?_eq_getElem _)
 obtain⟨t,et,bt⟩:=b.got (i:=j) (v:=xs[j]'(by lia)) (List.getElem?_eq_getElem _)
 obtain⟨t2,et2,bt2⟩:=b2.got (i:=j) (v:=ys[j]'(by lia)) (List.getElem?_eq_getElem _)
 have e1:its.toArray[j]=a:=by
  rw[List.getElem?_eq_getElem h1] at ea
  simpa using ea
 have e2:its2.toArray[j]=a2:=by
  rw[List.getElem?_eq_getElem h2] at ea2
  simpa using ea2
 have e3:eAt ts us j=eqTh t t2:=by unfold eAt; rw[et,et2]
 rw[e1,e2,e3]
 exact k t t2 _ _ a a2 j et bt bt2 ra ra2
theorem tup_is (I:Inv X pins σ H s){a:Addr}{xs:List V}(e:SqT X.K H a xs):∃ its:List Value,Vals xs its∧s.heap.IsTuple a its.toArray:=let ⟨its,r,p,_⟩:=I.tuple e; ⟨its,r,p⟩
theorem lst_is (I:Inv X pins σ H s){a:Addr}{xs:List V}(e:SqL X.K H a xs):∃ its:List Value,Vals xs its∧s.heap.IsList a its.toArray:=let ⟨its,r,p,_⟩:=I.list e; ⟨its,r,p.isList⟩
theorem rc_bears (I:Inv X pins σ H s)(n:Nat)(ih:∀ (A:Around) (x y:Th) (v u:V) (a b:Value),dp x<n→A.units+n<cLine→Bears X.K H v x→Bears X.K H u y→RelV v a→RelV u b→EqAt A s a b (eqTh x y)) :
  ∀ (A:Around) (x y:Th) (v u:V) (a b:Value),dp x≤n→A.units+n+1<cLine→Bears X.K H v x→Bears X.K H u y→RelV v a→RelV u b→RcAt A s a b (eqTh x y):=by
 intro A x y v u a b hn hu bx bY ra rb
 have hu0:A.units<cLine:=by lia
 have hin:A.in1.units=A.units+1:=rfl
 cases bx with
 |non =>
  cases ra
  cases bY with
  |non=>cases rb; unfold eqTh; exact RcAt.none_none
  |bl c=>cases rb; unfold eqTh; exact RcAt.none_bool _
  |int c=>obtain⟨_,rfl⟩:=rb; unfold eqTh; exact RcAt.none_int _ _
  |str c=>obtain⟨_,rfl⟩:=rb; unfold eqTh; exact RcAt.none_str _ _
  |tup e h=>cases rb; obtain⟨_,_,p⟩:=tup_is I e; unfold eqTh; exact RcAt.none_tuple p hu0
  |lst e h=>cases rb; obtain⟨_,_,p⟩:=lst_is I e; unfold eqTh; exact RcAt.none_list p hu0
 |bl d =>
  cases ra
  cases bY with
  |non=>cases rb; unfold eqTh; exact RcAt.bool_none _
  |bl c=>cases rb; unfold eqTh; exact RcAt.bool_bool _ _
  |int c=>obtain⟨_,rfl⟩:=rb; unfold eqTh; exact RcAt.bool_int _ _ _
  |str c=>obtain⟨_,rfl⟩:=rb; unfold eqTh; exact RcAt.bool_str _ _ _
  |tup e h=>cases rb; obtain⟨_,_,p⟩:=tup_is I e; unfold eqTh; exact RcAt.bool_tuple _ p hu0
  |lst e h=>cases rb; obtain⟨_,_,p⟩:=lst_is I e; unfold eqTh; exact RcAt.bool_list _ p hu0
 |int d =>
  obtain⟨_,rfl⟩:=ra
  cases bY with
  |non=>cases rb; unfold eqTh; exact RcAt.int_none _ _
  |bl c=>cases rb; unfold eqTh; exact RcAt.int_bool _ _ _
  |int c=>obtain⟨_,rfl⟩:=rb; unfold eqTh; exact RcAt.int_int _ _ _ _
  |str c=>obtain⟨_,rfl⟩:=rb; unfold eqTh; exact RcAt.int_str _ _ _ _
  |tup e h=>cases rb; obtain⟨_,_,p⟩:=tup_is I e; unfold eqTh; exact RcAt.int_tuple _ _ p hu0
  |lst e h=>cases rb; obtain⟨_,_,p⟩:=lst_is I e; unfold eqTh; exact RcAt.int_list _ _ p hu0
 |str d =>
  obtain⟨_,rfl⟩:=ra
  cases bY with
  |non=>cases rb; unfold eqTh; exact RcAt.str_none _ _
  |bl c=>cases rb; unfold eqTh; exact RcAt.str_bool _ _ _
  |int c=>obtain⟨_,rfl⟩:=rb; unfold eqTh; exact RcAt.str_int _ _ _ _
  |str c=>obtain⟨_,rfl⟩:=rb; unfold eqTh; exact RcAt.str_str _ _ _ _
  |tup e h=>cases rb; obtain⟨_,_,p⟩:=tup_is I e; unfold eqTh; exact RcAt.str_tuple _ _ p hu0
  |lst e h=>cases rb; obtain⟨_,_,p⟩:=lst_is I e; unfold eqTh; exact RcAt.str_list _ _ p hu0
 |tup e h =>
  cases ra
  obtain⟨its,r1,p1⟩:=tup_is I e
  cases bY with
  |non=>cases rb; unfold eqTh; exact RcAt.tuple_none p1 hu0
  |bl c=>cases rb; unfold eqTh; exact RcAt.tuple_bool _ p1 hu0
  |int c=>obtain⟨_,rfl⟩:=rb; unfold eqTh; exact RcAt.tuple_int _ _ p1 hu0
  |str c=>obtain⟨_,rfl⟩:=rb; unfold eqTh; exact RcAt.tuple_str _ _ p1 hu0
  |lst e2 h2=>cases rb; obtain⟨its2,r2,p2⟩:=lst_is I e2; unfold eqTh; exact RcAt.tuple_list p1 p2 hu0
  |tup e2 h2 =>
   cases rb
   obtain⟨its2,r2,p2⟩:=tup_is I e2
   have q:=RcAt.tuples (A:=A) p1 p2 hu0 (items_at r1 r2 h h2 fun x y v u a b i et b1 b2 ra rb=>by
    have:=dp_mem et
    unfold dp at hn
    exact ih A.in1 x y v u a b (by lia) (by rw[hin]; lia) b1 b2 ra rb)
   rename_i ts _ _ us
   have z1:its.toArray.size=ts.length:=by rw[List.size_toArray,← r1.length,h.length]
   have z2:its2.toArray.size=us.length:=by rw[List.size_toArray,← r2.length,h2.length]
   rw[z1,z2,eAt_all] at q
   unfold eqTh
   exact q
 |lst e h =>
  cases ra
  obtain⟨its,r1,p1⟩:=lst_is I e
  cases bY with
  |non=>cases rb; unfold eqTh; exact RcAt.list_none p1 hu0
  |bl c=>cases rb; unfold eqTh; exact RcAt.list_bool _ p1 hu0
  |int c=>obtain⟨_,rfl⟩:=rb; unfold eqTh; exact RcAt.list_int _ _ p1 hu0
  |str c=>obtain⟨_,rfl⟩:=rb; unfold eqTh; exact RcAt.list_str _ _ p1 hu0
  |tup e2 h2=>cases rb; obtain⟨its2,r2,p2⟩:=tup_is I e2; unfold eqTh; exact RcAt.list_tuple p1 p2 hu0
  |lst e2 h2 =>
   cases rb
   obtain⟨its2,r2,p2⟩:=lst_is I e2
   rename_i ts _ _ us
   have z1:its.toArray.size=ts.length:=by rw[List.size_toArray,← r1.length,h.length]
   have z2:its2.toArray.size=us.length:=by rw[List.size_toArray,← r2.length,h2.length]
   by_cases hz:its.toArray.size=its2.toArray.size
   ·have q:=RcAt.lists (A:=A) p1 p2 hz hu0 (items_at r1 r2 h h2 fun x y v u a b i et b1 b2 ra rb=>by
     have:=dp_mem et
     unfold dp at hn
     exact ih A.in1 x y v u a b (by lia) (by rw[hin]; lia) b1 b2 ra rb)
    have e1:eqThL ts us=(List.range its.toArray.size).all (eAt ts us):=by
     rw[← eAt_all,← z1,← z2,← hz,Nat.min_self]; simp
    unfold eqTh
    rw[e1]
    exact q
   ·have q:=RcAt.lists_lengths (A:=A) p1 p2 (by simpa using hz) hu0
    have e1:eqThL ts us=false:=by
     cases w:eqThL ts us with
     |false=>rfl
     |true=>exact absurd (by rw[z1,z2]; exact eqThL_len w) hz
    unfold eqTh
    rw[e1]
    exact q
theorem eq_bears (I:Inv X pins σ H s):∀ (n:Nat) (A:Around) (x y:Th) (v u:V) (a b:Value),dp x<n→A.units+n<cLine→Bears X.K H v x→Bears X.K H u y→RelV v a→RelV u b→EqAt A s a b (eqTh x y)
 |0,_,_,_,_,_,_,_,hn,_,_,_,_,_=>absurd hn (Nat.not_lt_zero _)
 |n+1,A,x,y,v,u,a,b,hn,hu,bx,bY,ra,rb=>by
  have rc:RcAt A s a b (eqTh x y):=rc_bears I n (fun A x y v u a b h1 h2=>eq_bears I n A x y v u a b h1 h2) A x y v u a b (by lia) (by lia) bx bY ra rb
  have hu0:A.units<cLine:=by lia
  cases bx with
  |non =>
   cases ra
   cases bY with
   |non=>cases rb; unfold eqTh; exact EqAt.same _
   |bl c=>cases rb; unfold eqTh; exact EqAt.none_bool _
   |int c=>obtain⟨_,rfl⟩:=rb; unfold eqTh; exact EqAt.none_int _ _
   |str c=>obtain⟨_,rfl⟩:=rb; unfold eqTh; exact EqAt.none_str _ _
   |tup e h=>cases rb; obtain⟨_,_,p⟩:=tup_is I e; unfold eqTh; exact EqAt.none_tuple p hu0
   |lst e h=>cases rb; obtain⟨_,_,p⟩:=lst_is I e; unfold eqTh; exact EqAt.none_list p hu0
  |bl d =>
   cases ra
   cases bY with
   |non=>cases rb; unfold eqTh; exact EqAt.bool_none _
   |bl c=>cases rb; unfold eqTh; exact EqAt.bool_bool _ _
   |int c=>obtain⟨_,rfl⟩:=rb; unfold eqTh; exact EqAt.bool_int _ _ _
   |str c=>obtain⟨_,rfl⟩:=rb; unfold eqTh; exact EqAt.bool_str _ _ _
   |tup e h=>cases rb; obtain⟨_,_,p⟩:=tup_is I e; unfold eqTh; exact EqAt.bool_tuple _ p hu0
   |lst e h=>cases rb; obtain⟨_,_,p⟩:=lst_is I e; unfold eqTh; exact EqAt.bool_list _ p hu0
  |int d =>
   obtain⟨_,rfl⟩:=ra
   cases bY with
   |non=>cases rb; unfold eqTh; exact EqAt.int_none _ _
   |bl c=>cases rb; unfold eqTh; exact EqAt.int_bool _ _ _
   |int c=>obtain⟨_,rfl⟩:=rb; unfold eqTh; exact EqAt.int_int _ _ _ _
   |str c=>obtain⟨_,rfl⟩:=rb; unfold eqTh; exact EqAt.int_str _ _ _ _
   |tup e h=>cases rb; obtain⟨_,_,p⟩:=tup_is I e; unfold eqTh; exact EqAt.int_tuple _ _ p hu0
   |lst e h=>cases rb; obtain⟨_,_,p⟩:=lst_is I e; unfold eqTh; exact EqAt.int_list _ _ p hu0
  |str d =>
   obtain⟨_,rfl⟩:=ra
   cases bY with
   |non=>cases rb; unfold eqTh; exact EqAt.str_none _ _
   |bl c=>cases rb; unfold eqTh; exact EqAt.str_bool _ _ _
   |int c=>obtain⟨_,rfl⟩:=rb; unfold eqTh; exact EqAt.str_int _ _ _ _
   |str c=>obtain⟨_,rfl⟩:=rb; unfold eqTh; exact EqAt.str_str _ _ _ _
   |tup e h=>cases rb; obtain⟨_,_,p⟩:=tup_is I e; unfold eqTh; exact EqAt.str_tuple _ _ p hu0
   |lst e h=>cases rb; obtain⟨_,_,p⟩:=lst_is I e; unfold eqTh; exact EqAt.str_list _ _ p hu0
  |tup e h =>
   cases ra
   obtain⟨its,r1,p1⟩:=tup_is I e
   cases bY with
   |non=>cases rb; unfold eqTh; exact EqAt.tuple_none p1 hu0
   |bl c=>cases rb; unfold eqTh; exact EqAt.tuple_bool _ p1 hu0
   |int c=>obtain⟨_,rfl⟩:=rb; unfold eqTh; exact EqAt.tuple_int _ _ p1 hu0
   |str c=>obtain⟨_,rfl⟩:=rb; unfold eqTh; exact EqAt.tuple_str _ _ p1 hu0
   |lst e2 h2=>cases rb; obtain⟨its2,r2,p2⟩:=lst_is I e2; unfold eqTh; exact EqAt.tuple_list p1 p2 hu0
   |@tup a2 _ _ e2 h2 =>
    cases rb
    rename_i a1 _ _ _ _
    by_cases hab:a1=a2
    ·subst hab
     rw[Bears.det I _ (Nat.le_refl _) (.tup e h) (.tup e2 h2),eqTh_refl]
     exact EqAt.same _
    ·exact EqAt.of_refs hab rc
  |lst e h =>
   cases ra
   obtain⟨its,r1,p1⟩:=lst_is I e
   cases bY with
   |non=>cases rb; unfold eqTh; exact EqAt.list_none p1 hu0
   |bl c=>cases rb; unfold eqTh; exact EqAt.list_bool _ p1 hu0
   |int c=>obtain⟨_,rfl⟩:=rb; unfold eqTh; exact EqAt.list_int _ _ p1 hu0
   |str c=>obtain⟨_,rfl⟩:=rb; unfold eqTh; exact EqAt.list_str _ _ p1 hu0
   |tup e2 h2=>cases rb; obtain⟨its2,r2,p2⟩:=tup_is I e2; unfold eqTh; exact EqAt.list_tuple p1 p2 hu0
   |@lst a2 _ _ e2 h2 =>
    cases rb
    rename_i a1 _ _ _ _
    by_cases hab:a1=a2
    ·subst hab
     rw[Bears.det I _ (Nat.le_refl _) (.lst e h) (.lst e2 h2),eqTh_refl]
     exact EqAt.same _
    ·exact EqAt.of_refs hab rc
end
section
variable {X:Cx}{K:PySem.W.Frag}{a b c e:Expr}{fa fb fc f:FD}{pos:Pos}{k:Nat}
def rEqD (K:PySem.W.Frag):R2:=fun v u H Q=>∃ x y,Bears K H v x∧Bears K H u y∧dp x≤100∧Q (.bl (eqTh x y)) H
theorem op_eqD (hr:Room k X.A):OpR X (compareOp .Eq) (rEqD X.K):=by
 intro pins s σ H v u a b Q I ra rb h
 obtain⟨x,y,bx,bY,hd,q⟩:=h
 have hu:=hr.un
 have rc:RcAt X.A s a b (eqTh x y):=rc_bears I 100 (fun A x y v u a b h1 h2=>eq_bears I 100 A x y v u a b h1 h2) X.A x y v u a b hd (by lia) bx bY ra rb
 exact rc _ _ _ _ ⟨.bl _,H,I,rfl,q⟩
def oEq:Th→Th→Option Th:=fun x y=>if decide (dp x≤100)=true then some (.bl (eqTh x y)) else none
theorem opD_eq:OpD K (rEqD K) oEq:=fun H O v u x y z Q hn hx hy e q=>by
 unfold oEq at e
 split at e
 ·rename_i hd
  cases e
  exact⟨x,y,hx.bears,hy.bears,of_decide_eq_true hd,q _ H (Same.refl H) (.bl _)⟩
 ·cases e
theorem pd_eq (hr:Room k X.A)(ha:PB X a fa)(hb:PB X b fb):PD X (.Compare a [.Eq] [b] pos) (f2 oEq fa fb):=pd_cmp (op_eqD hr) opD_eq ha hb (nomark _)
theorem pdt_eq (hr:Room k X.A)(ha:PB X a fa)(hb:PB X b fb):PDT X (.Compare a [.Eq] [b] pos) (fTest (f2 oEq fa fb)):=pdt_cmp (op_eqD hr) opD_eq ha hb (nomark _)
end
end L2
namespace L2
open PySem PySem.Spec PyProof.Rows PySem.SeqAt
section
variable {X:Cx}{pins:List (Addr×Obj)}{σ:St}{H:Hp}{s:Shared}
theorem rcne_bears (I:Inv X pins σ H s)(n:Nat)(ih:∀ (A:Around) (x y:Th) (v u:V) (a b:Value),dp x<n→A.units+n<cLine→Bears X.K H v x→Bears X.K H u y→RelV v a→RelV u b→EqAt A s a b (eqTh x y)) :
  ∀ (A:Around) (x y:Th) (v u:V) (a b:Value),dp x≤n→A.units+n+1<cLine→Bears X.K H v x→Bears X.K H u y→RelV v a→RelV u b→RcNeAt A s a b (!eqTh x y):=by
 intro A x y v u a b hn hu bx bY ra rb
 have hu0:A.units<cLine:=by lia
 have hin:A.in1.units=A.units+1:=rfl
 cases bx with
 |non =>
  cases ra
  cases bY with
  |non=>cases rb; unfold eqTh; exact RcNeAt.none_none
  |bl c=>cases rb; unfold eqTh; exact RcNeAt.none_bool _
  |int c=>obtain⟨_,rfl⟩:=rb; unfold eqTh; exact RcNeAt.none_int _ _
  |str c=>obtain⟨_,rfl⟩:=rb; unfold eqTh; exact RcNeAt.none_str _ _
  |tup e h=>cases rb; obtain⟨_,_,p⟩:=tup_is I e; unfold eqTh; exact RcNeAt.none_tuple p hu0
  |lst e h=>cases rb; obtain⟨_,_,p⟩:=lst_is I e; unfold eqTh; exact RcNeAt.none_list p hu0
 |bl d =>
  cases ra
  cases bY with
  |non=>cases rb; unfold eqTh; exact RcNeAt.bool_none _
  |bl c=>cases rb; unfold eqTh; exact RcNeAt.bool_bool _ _
  |int c=>obtain⟨_,rfl⟩:=rb; unfold eqTh; exact RcNeAt.bool_int _ _ _
  |str c=>obtain⟨_,rfl⟩:=rb; unfold eqTh; exact RcNeAt.bool_str _ _ _
  |tup e h=>cases rb; obtain⟨_,_,p⟩:=tup_is I e; unfold eqTh; exact RcNeAt.bool_tuple _ p hu0
  |lst e h=>cases rb; obtain⟨_,_,p⟩:=lst_is I e; unfold eqTh; exact RcNeAt.bool_list _ p hu0
 |int d =>
  obtain⟨_,rfl⟩:=ra
  cases bY with
  |non=>cases rb; unfold eqTh; exact RcNeAt.int_none _ _
  |bl c=>cases rb; unfold eqTh; exact RcNeAt.int_bool _ _ _
  |int c=>obtain⟨_,rfl⟩:=rb; unfold eqTh; exact RcNeAt.int_int _ _ _ _
  |str c=>obtain⟨_,rfl⟩:=rb; unfold eqTh; exact RcNeAt.int_str _ _ _ _
  |tup e h=>cases rb; obtain⟨_,_,p⟩:=tup_is I e; unfold eqTh; exact RcNeAt.int_tuple _ _ p hu0
  |lst e h=>cases rb; obtain⟨_,_,p⟩:=lst_is I e; unfold eqTh; exact RcNeAt.int_list _ _ p hu0
 |str d =>
  obtain⟨_,rfl⟩:=ra
  cases bY with
  |non=>cases rb; unfold eqTh; exact RcNeAt.str_none _ _
  |bl c=>cases rb; unfold eqTh; exact RcNeAt.str_bool _ _ _
  |int c=>obtain⟨_,rfl⟩:=rb; unfold eqTh; exact RcNeAt.str_int _ _ _ _
  |str c=>obtain⟨_,rfl⟩:=rb; unfold eqTh; exact RcNeAt.str_str _ _ _ _
  |tup e h=>cases rb; obtain⟨_,_,p⟩:=tup_is I e; unfold eqTh; exact RcNeAt.str_tuple _ _ p hu0
  |lst e h=>cases rb; obtain⟨_,_,p⟩:=lst_is I e; unfold eqTh; exact RcNeAt.str_list _ _ p hu0
 |tup e h =>
  cases ra
  obtain⟨its,r1,p1⟩:=tup_is I e
  cases bY with
  |non=>cases rb; unfold eqTh; exact RcNeAt.tuple_none p1 hu0
  |bl c=>cases rb; unfold eqTh; exact RcNeAt.tuple_bool _ p1 hu0
  |int c=>obtain⟨_,rfl⟩:=rb; unfold eqTh; exact RcNeAt.tuple_int _ _ p1 hu0
  |str c=>obtain⟨_,rfl⟩:=rb; unfold eqTh; exact RcNeAt.tuple_str _ _ p1 hu0
  |lst e2 h2=>cases rb; obtain⟨its2,r2,p2⟩:=lst_is I e2; unfold eqTh; exact RcNeAt.tuple_list p1 p2 hu0
  |tup e2 h2 =>
   cases rb
   obtain⟨its2,r2,p2⟩:=tup_is I e2
   have q:=RcNeAt.tuples (A:=A) p1 p2 hu0 (items_at r1 r2 h h2 fun x y v u a b i et b1 b2 ra rb=>by
    have:=dp_mem et
    unfold dp at hn
    exact ih A.in1 x y v u a b (by lia) (by rw[hin]; lia) b1 b2 ra rb)
   rename_i ts _ _ us
   have z1:its.toArray.size=ts.length:=by rw[List.size_toArray,← r1.length,h.length]
   have z2:its2.toArray.size=us.length:=by rw[List.size_toArray,← r2.length,h2.length]
   rw[z1,z2,eAt_all] at q
   unfold eqTh
   exact q
 |lst e h =>
  cases ra
  obtain⟨its,r1,p1⟩:=lst_is I e
  cases bY with
  |non=>cases rb; unfold eqTh; exact RcNeAt.list_none p1 hu0
  |bl c=>cases rb; unfold eqTh; exact RcNeAt.list_bool _ p1 hu0
  |int c=>obtain⟨_,rfl⟩:=rb; unfold eqTh; exact RcNeAt.list_int _ _ p1 hu0
  |str c=>obtain⟨_,rfl⟩:=rb; unfold eqTh; exact RcNeAt.list_str _ _ p1 hu0
  |tup e2 h2=>cases rb; obtain⟨its2,r2,p2⟩:=tup_is I e2; unfold eqTh; exact RcNeAt.list_tuple p1 p2 hu0
  |lst e2 h2 =>
   cases rb
   obtain⟨its2,r2,p2⟩:=lst_is I e2
   rename_i ts _ _ us
   have z1:its.toArray.size=ts.length:=by rw[List.size_toArray,← r1.length,h.length]
   have z2:its2.toArray.size=us.length:=by rw[List.size_toArray,← r2.length,h2.length]
   by_cases hz:its.toArray.size=its2.toArray.size
   ·have q:=RcNeAt.lists (A:=A) p1 p2 hz hu0 (items_at r1 r2 h h2 fun x y v u a b i et b1 b2 ra rb=>by
     have:=dp_mem et
     unfold dp at hn
     exact ih A.in1 x y v u a b (by lia) (by rw[hin]; lia) b1 b2 ra rb)
    have e1:eqThL ts us=(List.range its.toArray.size).all (eAt ts us):=by
     rw[← eAt_all,← z1,← z2,← hz,Nat.min_self]; simp
    unfold eqTh
    rw[e1]
    exact q
   ·have q:=RcNeAt.lists_lengths (A:=A) p1 p2 (by simpa using hz) hu0
    have e1:eqThL ts us=false:=by
     cases w:eqThL ts us with
     |false=>rfl
     |true=>exact absurd (by rw[z1,z2]; exact eqThL_len w) hz
    unfold eqTh
    rw[e1]
    exact q
end
section
variable {X:Cx}{K:PySem.W.Frag}{a b c e:Expr}{fa fb fc f:FD}{pos:Pos}{k:Nat}
def rNeD (K:PySem.W.Frag):R2:=fun v u H Q=>∃ x y,Bears K H v x∧Bears K H u y∧dp x≤100∧Q (.bl (!eqTh x y)) H
theorem op_neD (hr:Room k X.A):OpR X (compareOp .NotEq) (rNeD X.K):=by
 intro pins s σ H v u a b Q I ra rb h
 obtain⟨x,y,bx,bY,hd,q⟩:=h
 have hu:=hr.un
 have rc:RcNeAt X.A s a b (!eqTh x y):=rcne_bears I 100 (fun A x y v u a b h1 h2=>eq_bears I 100 A x y v u a b h1 h2) X.A x y v u a b hd (by lia) bx bY ra rb
 exact rc _ _ _ _ ⟨.bl _,H,I,rfl,q⟩
def oNe:Th→Th→Option Th:=fun x y=>if decide (dp x≤100)=true then some (.bl (!eqTh x y)) else none
theorem opD_ne:OpD K (rNeD K) oNe:=fun H O v u x y z Q hn hx hy e q=>by
 unfold oNe at e
 split at e
 ·rename_i hd
  cases e
  exact⟨x,y,hx.bears,hy.bears,of_decide_eq_true hd,q _ H (Same.refl H) (.bl _)⟩
 ·cases e
theorem pdt_ne (hr:Room k X.A)(ha:PB X a fa)(hb:PB X b fb):PDT X (.Compare a [.NotEq] [b] pos) (fTest (f2 oNe fa fb)):=pdt_cmp (op_neD hr) opD_ne ha hb (nomark _)
def anyEq (x:Th):List Th→Bool
 |[]=>false
 |t::r=>eqTh t x||anyEq x r
theorem any_bears {pins:List (Addr×Obj)}{σ:St}{H:Hp}{s:Shared}{A:Around}(I:Inv X pins σ H s){n:Nat}{x:Th}{v:V}{a:Value}(bx:Bears X.K H v x)(ra:RelV v a)(hu:A.units+n+1<cLine) :
  ∀ {its:List Value} {xs:List V} {ts:List Th},Vals xs its→BearsL X.K H xs ts→dpL ts<n→∃ e:Value→Bool,its.any e=anyEq x ts∧∀ y∈its,EqAt A.in1 s y a (e y):=by
 intro its xs ts r b hd
 have key:∀ y∈its,∃ t,EqAt A.in1 s y a (eqTh t x)∧∃ w,RelV w y∧Bears X.K H w t:=by
  intro y hy
  obtain⟨i,hi⟩:=List.getElem?_of_mem hy
  have hl:=r.length
  have hi':i<its.length:=(List.getElem?_eq_some_iff.mp hi).1
  obtain⟨u,hu',ru⟩:=r.get (i:=i) (x:=xs[i]'(by lia)) (List.getElem?_eq_getElem _)
  rw[hi] at hu'; cases hu'
  obtain⟨t,ht,bt⟩:=b.got (i:=i) (v:=xs[i]'(by lia)) (List.getElem?_eq_getElem _)
  have:=dp_mem ht
  exact⟨t,eq_bears I n A.in1 t x _ _ _ _ (by lia) (by show A.units+1+n<cLine; lia) bt bx ru ra,_,ru,bt⟩
 open Classical in
 refine⟨fun y=>if h:∃ t,EqAt A.in1 s y a (eqTh t x)∧∃ w,RelV w y∧Bears X.K H w t then eqTh h.choose x else false,?_,fun y hy=>?_⟩
 ·clear hd
  induction r generalizing ts with
  |nil=>cases b; rfl
  |@cons v' y' vs us ry rs ih =>
   cases b with
   |@cons _ t _ ts' bt br =>
    rw[List.any_cons,anyEq,ih br fun z hz=>key z (List.mem_cons_of_mem _ hz)]
    congr 1
    have h:=key y' List.mem_cons_self
    simp only[dif_pos h]
    obtain⟨_,w,rw',bw⟩:=h.choose_spec
    have e1:w=v':=rw'.inj ry
    subst e1
    rw[Bears.det I _ (Nat.le_refl _) bw bt]
 ·have h:=key y hy
  simp only[dif_pos h]
  exact h.choose_spec.1
def rInD (K:PySem.W.Frag)(neg:Bool):R2:=fun v u H Q=>∃ x p xs ts,u=.ref p∧Bears K H v x∧(SqL K H p xs∨SqT K H p xs)∧BearsL K H xs ts∧dpL ts<100∧Q (.bl (if neg then !anyEq x ts else anyEq x ts)) H
theorem op_notInD (hr:Room k X.A):OpR X (compareOp .NotIn) (rInD X.K true):=by
 intro pins s σ H v u a b Q I ra rb h
 obtain⟨x,p,xs,ts,rfl,bx,hs,bts,hd,q⟩:=h
 cases rb
 have hu:=hr.un
 rcases hs with hs | hs
 ·obtain⟨its,r,hl⟩:=lst_is I hs
  obtain⟨e,he,hk⟩:=any_bears (A:=X.A) I bx ra (n:=100) (by lia) r bts hd
  exact notIn_listAt e hl (fun y hy=>hk y (by simpa using hy)) ⟨.bl _,H,I,by rw[List.any_toArray,he]; rfl,q⟩
 ·obtain⟨its,r,hl⟩:=tup_is I hs
  obtain⟨e,he,hk⟩:=any_bears (A:=X.A) I bx ra (n:=100) (by lia) r bts hd
  exact notIn_tupleAt e hl (fun y hy=>hk y (by simpa using hy)) ⟨.bl _,H,I,by rw[List.any_toArray,he]; rfl,q⟩
def inS (x y:Str):Bool:=!(Builtin.Str.occurrences y x 0 y.length 1).isEmpty
def oIn (neg:Bool):Th→Th→Option Th
 |x,.lst ts=>if decide (dpL ts<100)=true then some (.bl (if neg then !anyEq x ts else anyEq x ts)) else none
 |x,.tup ts=>if decide (dpL ts<100)=true then some (.bl (if neg then !anyEq x ts else anyEq x ts)) else none
 |.str x,.str y=>some (.bl (if neg then !inS x y else inS x y))
 |_,_=>none
def rInS (neg:Bool):R2:=fun x y H Q=>∃ i j,x=.str i∧y=.str j∧Q (.bl (if neg then !inS i j else inS i j)) H
def rInA (K:PySem.W.Frag)(neg:Bool):R2:=fun x y H Q=>rInD K neg x y H Q∨rInS neg x y H Q
theorem op_notInS:OpR X (compareOp .NotIn) (rInS true):=fun pins s σ H x y v u Q I rx ry h=>op_notIn_str pins s σ H x y v u Q I rx ry h
theorem opD_in {neg:Bool}:OpD K (rInA K neg) (oIn neg):=fun H O v u x y z Q hn hx hy e q=>by
 unfold oIn at e
 split at e
 ·split at e
  ·rename_i hd
   cases e
   obtain⟨a,xs,rfl,h1,b1⟩:=hy.lst
   exact .inl ⟨_,a,xs,_,rfl,hx.bears,.inl h1,b1.mono (less_sub H O),of_decide_eq_true hd,q _ H (Same.refl H) (.bl _)⟩
  ·cases e
 ·split at e
  ·rename_i hd
   cases e
   obtain⟨a,xs,rfl,h1,b1⟩:=hy.tup
   exact .inl ⟨_,a,xs,_,rfl,hx.bears,.inr ((less_sub H O).seqT h1),b1.mono (less_sub H O),of_decide_eq_true hd,q _ H (Same.refl H) (.bl _)⟩
  ·cases e
 ·cases e
  exact .inr ⟨_,_,hx.str,hy.str,q _ H (Same.refl H) (.bl _)⟩
 ·cases e
theorem pdt_notIn (hr:Room k X.A)(ha:PB X a fa)(hb:PB X b fb)(hm:behindInMarks .NotIn b=false:=by with_unfolding_all rfl):PDT X (.Compare a [.NotIn] [b] pos) (fTest (f2 (oIn true) fa fb)):=pdt_cmp ((op_notInD hr).or op_notInS) opD_in ha hb hm
end
def tyTh:Th→String
 |.non=>"NoneType"
 |.bl _=>"bool"
 |.int _=>"int"
 |.str _=>"str"
 |.tup _=>"tuple"
 |.lst _=>"list"
def isB (t T:String):Bool:=t == T||(t == "bool"&&T == "int")
section
variable {X:Cx}{K:PySem.W.Frag}{a b c e:Expr}{fa fb fc f:FD}{pos:Pos}{k:Nat}
def fIsI (T:String)(f:FD):FD:=fun d=>(f d).map fun x=>.bl (isB (tyTh x) T)
def boolsOf:List Th→Option (List Bool)
 |[]=>some []
 |.bl b::r=>(boolsOf r).map (b::·)
 |_=>none
def oAll (any:Bool):List Th→Option Th
 |[.lst ts]=>(boolsOf ts).map fun bs=>.bl (if any then bs.any id else bs.all id)
 |_=>none
def keyOf:Th→Option Key
 |.int i=>some (.inl i)
 |.str x=>some (.inr x)
 |_=>none
def keysOf:List Th→Option (List Key)
 |[]=>some []
 |t::r=>(keyOf t).bind fun k=>(keysOf r).map (k::·)
theorem keys_rel {H:Hp}:∀ {ts:List Th} {ks:List Key} {vs:List V} {us:List Value},keysOf ts=some ks→BearsL K H vs ts→Vals vs us→HT.KeysAre us ks
 |[],_,_,_,e,b,r=>by cases e; cases b; cases r; exact .nil
 |t::ts,_,_,_,e,b,r=>by
  cases b with
  |cons b1 b2=>cases r with
   |cons r1 r2 =>
    unfold keysOf at e
    cases hk:keyOf t with
    |none=>rw[hk] at e; cases e
    |some k =>
     rw[hk] at e
     change ((keysOf ts).map (k::·))=_ at e
     cases hb:keysOf ts with
     |none=>rw[hb] at e; cases e
     |some bs =>
      rw[hb] at e
      cases e
      refine .cons ?_ (keys_rel hb b2 r2)
      cases b1 with
      |int i=>cases hk; obtain⟨t,rfl⟩:=r1; exact .int i t
      |str i=>cases hk; obtain⟨t,rfl⟩:=r1; exact .str i t
      |_=>cases hk
def rLtK (K:PySem.W.Frag):R2:=fun x y H Q=>∃ a b xs ys ts us ns ms z,x=.ref a∧y=.ref b∧SqT K H a xs∧SqT K H b ys∧BearsL K H xs ts∧BearsL K H ys us∧keysOf ts=some ns∧keysOf us=some ms∧HT.lexK ns ms=some z∧Q (.bl z) H
theorem op_ltK (hr:Room k X.A):OpR X (compareOp .Lt) (rLtK X.K):=by
 intro pins s σ H x y v u Q I rx ry h
 obtain⟨a,b,xs,ys,ts,us,ns,ms,z,rfl,rfl,ha,hb,ba,bb,ka,kb,hz,q⟩:=h
 cases rx
 cases ry
 obtain⟨its,r1,p1,_⟩:=I.tuple ha
 obtain⟨its2,r2,p2,_⟩:=I.tuple hb
 exact HT.lt_tupKeys p1 p2 (by simpa using keys_rel ka ba r1) (by simpa using keys_rel kb bb r2) hz hr.units0 ⟨.bl z,H,I,rfl,q⟩
def oLt:Th→Th→Option Th
 |.int i,.int j=>some (.bl (decide (i<j)))
 |.str x,.str y=>some (.bl (decide (x.cps.toList<y.cps.toList)))
 |.tup ts,.tup us=>(keysOf ts).bind fun ns=>(keysOf us).bind fun ms=>(HT.lexK ns ms).map .bl
 |_,_=>none
def rLtA (K:PySem.W.Frag):R2:=fun x y H Q=>rI0 (fun i j=>.bl (decide (i<j))) x y H Q∨(∃ i j,x=.str i∧y=.str j∧Q (.bl (decide (i.cps.toList<j.cps.toList))) H)∨rLtK K x y H Q
theorem op_ltA (hr:Room k X.A):OpR X (compareOp .Lt) (rLtA X.K):=op_lt.or (op_lt_str.or (op_ltK hr))
theorem opD_lt:OpD K (rLtA K) oLt:=fun H O v u x y z Q hn hx hy e q=>by
 unfold oLt at e
 split at e
 ·cases e; exact .inl ⟨_,_,hx.int,hy.int,q _ H (Same.refl H) (.bl _)⟩
 ·cases e; exact .inr (.inl ⟨_,_,hx.str,hy.str,q _ H (Same.refl H) (.bl _)⟩)
 ·rename_i ts us
  cases h1:keysOf ts with
  |none=>rw[h1] at e; cases e
  |some ns =>
   rw[h1] at e
   change ((keysOf us).bind fun ms=>(HT.lexK ns ms).map Th.bl)=_ at e
   cases h2:keysOf us with
   |none=>rw[h2] at e; cases e
   |some ms =>
    rw[h2] at e
    change ((HT.lexK ns ms).map Th.bl)=_ at e
    cases h3:HT.lexK ns ms with
    |none=>rw[h3] at e; cases e
    |some k =>
     rw[h3] at e
     cases e
     obtain⟨a,xs,rfl,g1,b1⟩:=hx.tup
     obtain⟨b,ys,rfl,g2,b2⟩:=hy.tup
     exact .inr (.inr ⟨a,b,xs,ys,ts,us,ns,ms,k,rfl,rfl,(less_sub H O).seqT g1,(less_sub H O).seqT g2,b1.mono (less_sub H O),b2.mono (less_sub H O),h1,h2,h3,q _ H (Same.refl H) (.bl k)⟩)
 ·cases e
theorem pd_lt (hr:Room k X.A)(ha:PB X a fa)(hb:PB X b fb):PD X (.Compare a [.Lt] [b] pos) (f2 oLt fa fb):=pd_cmp (op_ltA hr) opD_lt ha hb (nomark _)
theorem pdt_lt (hr:Room k X.A)(ha:PB X a fa)(hb:PB X b fb):PDT X (.Compare a [.Lt] [b] pos) (fTest (f2 oLt fa fb)):=pdt_cmp (op_ltA hr) opD_lt ha hb (nomark _)
def oCmpI (p:Int→Int→Bool):Th→Th→Option Th
 |.int i,.int j=>some (.bl (p i j))
 |_,_=>none
theorem opD_cmpI {p:Int→Int→Bool}:OpD K (rI0 fun i j=>.bl (p i j)) (oCmpI p):=fun H O v u x y z Q hn hx hy e q=>by
 unfold oCmpI at e
 split at e
 ·cases e; exact⟨_,_,hx.int,hy.int,q _ H (Same.refl H) (.bl _)⟩
 ·cases e
abbrev oLe:=oCmpI fun i j=>decide (i≤j)
abbrev oGt:=oCmpI fun i j=>decide (j<i)
abbrev oGe:=oCmpI fun i j=>decide (j≤i)
theorem pdt_gt (ha:PB X a fa)(hb:PB X b fb):PDT X (.Compare a [.Gt] [b] pos) (fTest (f2 oGt fa fb)):=pdt_cmp op_gt opD_cmpI ha hb (nomark _)
theorem pdt_ge (ha:PB X a fa)(hb:PB X b fb):PDT X (.Compare a [.GtE] [b] pos) (fTest (f2 oGe fa fb)):=pdt_cmp op_ge opD_cmpI ha hb (nomark _)
def isNon:Th→Bool
 |.non=>true
 |_=>false
def oIsN (neg:Bool):Th→Th→Option Th
 |x,.non=>some (.bl (if neg then !isNon x else isNon x))
 |_,_=>none
theorem bears_non {H:Hp}{v:V}{x:Th}(b:Bears K H v x):decide (v=.non)=isNon x:=by cases b <;> simp[isNon]
theorem opD_isN:OpD K (fun x y H Q=>y=.non∧Q (.bl (decide (x=.non))) H) (oIsN false):=fun H O v u x y z Q hn hx hy e q=>by
 unfold oIsN at e
 split at e
 ·cases e
  have hb:=hy.bears
  cases hb
  refine⟨rfl,?_⟩
  rw[bears_non hx.bears]
  exact q _ H (Same.refl H) (.bl _)
 ·cases e
theorem opD_notN:OpD K (fun x y H Q=>y=.non∧Q (.bl (!decide (x=.non))) H) (oIsN true):=fun H O v u x y z Q hn hx hy e q=>by
 unfold oIsN at e
 split at e
 ·cases e
  have hb:=hy.bears
  cases hb
  refine⟨rfl,?_⟩
  rw[bears_non hx.bears]
  exact q _ H (Same.refl H) (.bl _)
 ·cases e
theorem pd_isN (ha:PB X a fa)(hb:PB X b fb):PD X (.Compare a [.Is] [b] pos) (f2 (oIsN false) fa fb):=pd_cmp op_isN opD_isN ha hb (nomark _)
theorem pdt_isN (ha:PB X a fa)(hb:PB X b fb):PDT X (.Compare a [.Is] [b] pos) (fTest (f2 (oIsN false) fa fb)):=pdt_cmp op_isN opD_isN ha hb (nomark _)
theorem pdt_notN (ha:PB X a fa)(hb:PB X b fb):PDT X (.Compare a [.IsNot] [b] pos) (fTest (f2 (oIsN true) fa fb)):=pdt_cmp op_notN opD_notN ha hb (nomark _)
end
def cutL {α:Type}(xs:List α)(lo hi:Option Int):List α:=(xs.drop (HT.sIx xs.length 0 lo)).take (HT.sIx xs.length xs.length hi-HT.sIx xs.length 0 lo)
theorem cutL_le {α:Type}(xs:List α)(lo hi:Option Int):(cutL xs lo hi).length≤xs.length:=by
 unfold cutL
 rw[List.length_take,List.length_drop]
 lia
theorem BearsL.cut {K:PySem.W.Frag}{H:Hp}{vs:List V}{ts:List Th}(b:BearsL K H vs ts)(lo hi:Option Int):BearsL K H (cutV vs lo hi) (cutL ts lo hi):=by
 unfold cutV cutL
 rw[b.length]
 exact (b.drop _).take _
theorem cut_whole {α:Type}{xs:List α}{lo hi:Option Int}(h:HT.sIx xs.length 0 lo=0∧HT.sIx xs.length xs.length hi=xs.length):cutL xs lo hi=xs:=by
 unfold cutL
 rw[h.1,h.2,List.drop_zero,Nat.sub_zero,List.take_length]
section
variable {prog:Program}{w:World}{A:Around}{E:Value→Shared→Prop}{s:Shared}
theorem getItem_tuple_all {t sl:Addr}{items:Array Value}{vl vu:Value}{lo hi:Option Int}{Q:Value→Shared→Prop}(ht:IsTup s.heap t items)(hs:s.heap.IsSliceOf sl vl vu .none)(pl:IsPart vl lo)(pu:IsPart vu hi)
  (hw:HT.sIx items.size 0 lo=0∧HT.sIx items.size items.size hi=items.size) (h:Q (.ref t) s):wpAny (model prog w) A (getItem (.ref t) (.ref sl)) Q E s:=by
 obtain⟨os,hos,hcs,hds⟩:=id hs
 have hTs:s.TypeIs (.ref sl) "slice":=⟨os,hos,hcs⟩
 unfold getItem
 try with_reducible refine wpAny_holding ?_
 first | refine wpAny_bind (wpAny_pure ?_) | skip
 refine wpAny_bind (wpAny_sequenceKey ht.typeIs (by decide) ?_)
 refine wpAny_bind (wpAny_callSpecial?_slot (name:=Str.ofString "__getitem__") ht.typeIs PyProof.Rows.slot_tuple_getitem
  (wpAny_call_entry PyProof.Rows.slot_tuple_getitem ht.typeIs entry_tuple_getitem ?_ (args_tuple_getitem _ _)))
 show wpAny _ _ (Builtin.Tuple.tupleItemsOf (.ref t)>>=_) _ _ s
 refine wpAny_bind (tupleItemsOf_ ht ?_)
 refine wpAny_bind (wpAny_typeOf hTs ?_)
 rw[if_pos (by decide)]
 refine wpAny_bind (HT.sliceApplied_gen hs pl pu ?_)
 have hyes:(((HT.sIx items.size 0 lo:Nat):Int) == 0&&(1:Int) == 1&&(HT.sIx items.size items.size hi-HT.sIx items.size 0 lo) == items.size)=true:=by
  rw[hw.1,hw.2]; simp
 show wpAny _ _ (if (((HT.sIx items.size 0 lo:Nat):Int) == 0&&(1:Int) == 1&&(HT.sIx items.size items.size hi-HT.sIx items.size 0 lo) == items.size)=true then _ else _) _ _ s
 rw[if_pos hyes]
 unfold Builtin.Tuple.tupleIsExact
 refine wpAny_bind (wpAny_bind (wpAny_typeOf ht.typeIs (wpAny_pure ?_)))
 rw[if_pos (by decide)]
 exact wpAny_bind (wpAny_rule (wpAny_pure ⟨_,rfl,wpAny_pure h⟩))
end
def cutS (x:Str)(lo hi:Option Int):Str:=⟨(cutL x.cps.toList lo hi).toArray⟩
theorem str_mk (x:Str):(⟨x.cps.toList.toArray⟩:Str)=x:=by cases x; simp
theorem strSlice_cut (x:Str)(lo hi:Option Int):(Builtin.Str.strSliceIndices lo hi 1 x.length).filterMap (x.cps[·]?)=cutL x.cps.toList lo hi∧(Builtin.Str.strSliceIndices lo hi 1 x.length).length=HT.sIx x.length x.length hi-HT.sIx x.length 0 lo:=by
 have e0:Builtin.Str.strSliceIndices lo hi 1 x.length=sliceRange (sliceBounds lo hi none x.length).1 (sliceBounds lo hi none x.length).2.1 1:=rfl
 obtain⟨h1,h2,h3⟩:=slice_bounds lo hi x.length
 have hl:x.cps.toList.length=x.length:=by simp[Str.length]
 rw[e0,h1,h2,sliceRange_one]
 refine⟨?_,by simp⟩
 rw[pick_run]
 unfold cutL
 rw[hl]
section
variable {X:Cx}{e a b:Expr}{te tl th:TE}{pos p2:Pos}
theorem part_of {v:Value}{o:Option Int}(p:IsPart v o):∃ q:Option (Int×Tok),v=partValue q∧q.map (·.1)=o:=by
 cases p with
 |none=>exact⟨none,rfl,rfl⟩
 |int i t=>exact⟨some (i,t),rfl,rfl⟩
def rSlS:V→Option Int→Option Int→Hp→VK→Prop:=fun x lo hi H Q=>∃ z,x=.str z∧z.length≤sizeLine∧Q (.str (cutS z lo hi)) H
theorem sl_str:SlR X rSlS:=by
 intro pins s σ H x v vl vu lo hi sl Q I rx hs pl pu h
 obtain⟨z,rfl,hz,q⟩:=h
 obtain⟨t,rfl⟩:=rx
 obtain⟨l,rfl,hl⟩:=part_of pl
 obtain⟨u,rfl,hu⟩:=part_of pu
 refine⟨"str",_,PySem.F.slot_str_getitem.lookup,typeIs_str _ _ _,wpAny_getItem_str_slice (l:=l) (u:=u) (st:=none) hs rfl ?_⟩
 obtain⟨c1,c2⟩:=strSlice_cut z lo hi
 have hp:slicePicked z l u none=Builtin.Str.strSliceIndices lo hi 1 z.length:=by
  unfold slicePicked; rw[hl,hu]; rfl
 have hzl:z.cps.toList.length=z.length:=by simp[Str.length]
 unfold sliceMade
 rw[hp,c1,c2]
 split
 ·rename_i hc
  simp only[Bool.and_eq_true,beq_iff_eq] at hc
  have h1:=HT.sIx_le z.length z.length (Nat.le_refl _) hi
  have h0:=HT.sIx_le z.length 0 (Nat.zero_le _) lo
  have e:cutS z lo hi=z:=by
   unfold cutS
   rw[cut_whole (by rw[hzl]; lia)]
  rw[e] at q
  exact⟨.str z,H,I,⟨t,rfl⟩,q⟩
 ·refine⟨?_,⟨.str (cutS z lo hi),H,I.tok _,⟨_,rfl⟩,q⟩⟩
  have:=cutL_le z.cps.toList lo hi
  simp only[Str.length,List.size_toArray]
  simp only[Str.length] at hz
  simp only[Array.length_toList] at this
  lia
def rSlTw (K:PySem.W.Frag):V→Option Int→Option Int→Hp→VK→Prop:=fun x lo hi H Q=>∃ a xs,x=.ref a∧SqT K H a xs∧(HT.sIx xs.length 0 lo=0∧HT.sIx xs.length xs.length hi=xs.length)∧Q (.ref a) H
theorem sl_tupw:SlR X (rSlTw X.K):=by
 intro pins s σ H x v vl vu lo hi sl Q I rx hs pl pu h
 obtain⟨a,xs,rfl,hx,hw,q⟩:=h
 cases rx
 obtain⟨its,r,ht,hz⟩:=I.tuple hx
 have hlen:its.toArray.size=xs.length:=by rw[List.size_toArray]; exact r.length.symm
 exact⟨"tuple",_,PyProof.Rows.slot_tuple_getitem.lookup,ht.typeIs,getItem_tuple_all ht hs pl pu (by rw[hlen]; exact hw) ⟨.ref a,H,I,rfl,q⟩⟩
def rSlA (K:PySem.W.Frag):V→Option Int→Option Int→Hp→VK→Prop:=fun x lo hi H Q=>rSlS x lo hi H Q∨rSlT K x lo hi H Q∨rSlTw K x lo hi H Q∨rSlL K x lo hi H Q
theorem sl_any:SlR X (rSlA X.K):=sl_str.or (sl_tup.or (sl_tupw.or sl_list))
abbrev FO:=Sd→Option (Option Int)
def liftO (K:PySem.W.Frag)(f:FO):TO:=fun σ H Q=>∃ O d o,Rep K H O σ d∧f d=some o∧∀ H',Same H H'→Q o H'
def PDO (X:Cx)(e:Option Expr)(f:FO):Prop:=PO X e (liftO X.K f)
theorem PO.imp {e:Option Expr}{t t':TO}(h:PO X e t)(i:∀ σ H Q,t' σ H Q→t σ H Q):PO X e t':=fun pins s σ H Q I q=>h pins s σ H Q I (i σ H Q q)
def fNoPart:FO:=fun _=>some none
def fPart (f:FD):FO:=fun d=>match f d with | some (.int i)=>some (some i) | _=>none
theorem pdo_none:PDO X none fNoPart:=PO.imp po_none fun σ H Q ⟨O,d,o,R,e,q⟩=>by cases e; exact q H (Same.refl H)
theorem pdo_some {f:FD}(h:PD X e f):PDO X (some e) (fPart f):=PO.imp (po_some h) fun σ H Q ⟨O,d,o,R,e,q⟩=>by
 unfold fPart at e
 split at e
 ·rename_i i hf
  cases e
  exact⟨O,d,.int i,R,hf,fun v H' s b=>by cases b; exact⟨i,rfl,q H' s⟩⟩
 ·cases e
def oSl:Th→Option Int→Option Int→Option Th
 |.str x,lo,hi=>if smallN x.length=true then some (.str (cutS x lo hi)) else none
 |.tup ts,lo,hi=>some (.tup (cutL ts lo hi))
 |.lst ts,lo,hi=>some (.lst (cutL ts lo hi))
 |_,_,_=>none
def fSl (f:FD)(fl fh:FO):FD:=fun d=>(f d).bind fun x=>(fl d).bind fun lo=>(fh d).bind fun hi=>oSl x lo hi
theorem fSl_some {f:FD}{fl fh:FO}{d:Sd}{T:Th}(h:fSl f fl fh d=some T):∃ x lo hi,f d=some x∧fl d=some lo∧fh d=some hi∧oSl x lo hi=some T:=by
 unfold fSl at h
 cases h1:f d with
 |none=>rw[h1] at h; cases h
 |some x =>
  rw[h1] at h
  change ((fl d).bind fun lo=>(fh d).bind fun hi=>oSl x lo hi)=_ at h
  cases h2:fl d with
  |none=>rw[h2] at h; cases h
  |some lo =>
   rw[h2] at h
   change ((fh d).bind fun hi=>oSl x lo hi)=_ at h
   cases h3:fh d with
   |none=>rw[h3] at h; cases h
   |some hi=>rw[h3] at h; exact⟨x,lo,hi,rfl,rfl,rfl,h⟩
theorem cutL_whole_len {α β:Type}{xs:List α}{ys:List β}{lo hi:Option Int}(hl:xs.length=ys.length)(h:HT.sIx xs.length 0 lo=0∧HT.sIx xs.length xs.length hi=xs.length):cutL ys lo hi=ys:=cut_whole (by rw[← hl]; exact h)
theorem pd_slice {f:FD}{fl fh:FO}{lo hi:Option Expr}(h:PB X e f)(hl:PDO X lo fl)(hh:PDO X hi fh):PD X (.Subscript e (.Slice lo hi none p2) pos) (fSl f fl fh):=PE.imp (pe_slice sl_any h hl hh) fun σ H Q ⟨O,d,T,R,e,q⟩=>by
 obtain⟨x,l,u,h1,h2,h3,e⟩:=fSl_some e
 refine⟨O,d,x,R,h1,fun v H1 s1 bv=>⟨O,d,l,R.mono s1,h2,fun H2 s2=>⟨O,d,u,R.mono (s1.trans s2),h3,fun H3 s3=>?_⟩⟩⟩
 have s03:Same H H3:=(s1.trans s2).trans s3
 have b3:=bv.mono (s2.trans s3)
 unfold oSl at e
 split at e
 ·split at e
  ·cases e
   exact .inl ⟨_,b3.str,smallN_le ‹_›,q _ H3 s03 (.str _)⟩
  ·cases e
 ·cases e
  obtain⟨a,xs,rfl,hx,bx⟩:=b3.tup
  by_cases hw:HT.sIx xs.length 0 l=0∧HT.sIx xs.length xs.length u=xs.length
  ·refine .inr (.inr (.inl ⟨a,xs,rfl,(less_sub H3 O).seqT hx,hw,q _ H3 s03 ?_⟩))
   rw[cutL_whole_len bx.length hw]
   exact .tup hx bx
  ·exact .inr (.inl ⟨a,xs,rfl,(less_sub H3 O).seqT hx,hw,fun p hp=>q _ _ (s03.trans (Same.upd hp)) (.tup (SqT.of (less_of upd_same ((R.mono s03).notOwn hp))) ((bx.cut l u).mono (less_mono (Same.upd hp))))⟩)
 ·cases e
  obtain⟨a,xs,rfl,hx,bx⟩:=b3.lst
  exact .inr (.inr (.inr ⟨a,xs,rfl,hx,fun p hp=>q _ _ (s03.trans (Same.upd hp)) (.lst (SqL.of (less_of upd_same ((R.mono s03).notOwn hp))) ((bx.cut l u).mono (less_mono (Same.upd hp))))⟩))
 ·cases e
def fSlF (f:FD)(fl fh:FO):FL:=fun d=>match fSl f fl fh d with | some (.lst ts)=>some ts | _=>none
theorem pf_slice {f:FD}{fl fh:FO}{lo hi:Option Expr}(h:PB X e f)(hl:PDO X lo fl)(hh:PDO X hi fh):PF X (.Subscript e (.Slice lo hi none p2) pos) (fSlF f fl fh):=PE.imp (pe_slice sl_any h hl hh) fun σ H Q ⟨O,d,T,R,e,q⟩=>by
 unfold fSlF at e
 split at e
 ·rename_i ts e'
  cases e
  obtain⟨x,l,u,h1,h2,h3,e⟩:=fSl_some e'
  refine⟨O,d,x,R,h1,fun v H1 s1 bv=>⟨O,d,l,R.mono s1,h2,fun H2 s2=>⟨O,d,u,R.mono (s1.trans s2),h3,fun H3 s3=>?_⟩⟩⟩
  have s03:Same H H3:=(s1.trans s2).trans s3
  have b3:=bv.mono (s2.trans s3)
  unfold oSl at e
  split at e
  ·split at e <;> cases e
  ·cases e
  ·cases e
   obtain⟨a,xs,rfl,hx,bx⟩:=b3.lst
   exact .inr (.inr (.inr ⟨a,xs,rfl,hx,fun p hp=>q _ _ (s03.trans (Same.upd hp)) ⟨p,_,rfl,s03.free hp,upd_same,(bx.cut l u).mono (less_new (Same.upd hp) hp)⟩⟩))
  ·cases e
 ·cases e
def oIx:Th→Th→Option Th
 |.lst ts,.int i=>atI ts i
 |.tup ts,.int i=>atI ts i
 |.str x,.int i=>if smallN x.length=true then (atI x.cps.toList i).map fun c=>.str ⟨#[c]⟩ else none
 |_,_=>none
theorem BearsL.at {K:PySem.W.Frag}{H:Hp}{vs:List V}{ts:List Th}{i:Int}{t:Th}(b:BearsL K H vs ts)(h:atI ts i=some t):∃ v,atI vs i=some v∧Bears K H v t:=by
 unfold atI at h ⊢
 rw[b.length]
 cases e:ixN ts.length i with
 |none=>rw[e] at h; cases h
 |some j =>
  rw[e] at h
  exact b.get h
theorem opD_ix {K:PySem.W.Frag}:OpD K (rIx K) oIx:=fun H O v u x y z Q hn hx hy e q=>by
 unfold oIx at e
 split at e
 ·obtain⟨a,xs,rfl,h1,b1⟩:=hx.lst
  obtain⟨w,h2,b2⟩:=b1.at e
  exact .inl ⟨a,xs,_,w,rfl,hy.int,h1,h2,q _ H (Same.refl H) b2⟩
 ·obtain⟨a,xs,rfl,h1,b1⟩:=hx.tup
  obtain⟨w,h2,b2⟩:=b1.at e
  exact .inr (.inl ⟨a,xs,_,w,rfl,hy.int,(less_sub H O).seqT h1,h2,q _ H (Same.refl H) b2⟩)
 ·split at e
  ·rename_i x' i hz
   cases hc:atI x'.cps.toList i with
   |none=>rw[hc] at e; cases e
   |some c =>
    rw[hc] at e
    cases e
    exact .inr (.inr ⟨_,_,c,hx.str,hy.int,smallN_le hz,hc,q _ H (Same.refl H) (.str _)⟩)
  ·cases e
 ·cases e
theorem pd_ix {fa fb:FD}(ha:PB X a fa)(hb:PB X b fb)(hs:PlainIx b):PD X (.Subscript a b pos) (f2 oIx fa fb):=PE.imp (pe_ix ix_seq ha hb hs) (tOp_lift opD_ix)
end
end L2
namespace HT
open PySem PyProof.Rows PySem.Builtin
open PySem.AutoSeq1 (wpAny_loadPart')
theorem noFill_tuple_mul:fillsNumberSlot (.type "tuple") "mul"=pure false :=
 PySem.fillsNumberSlot_seq (id:="tuple.__mul__") (r:=some (.builtin "tuple.__rmul__")) PySem.F.slot_tuple_mul.lookup (by decide +kernel) PySem.F.slot_tuple_rmul.lookup (by decide +kernel)
theorem repeat_tuple:seqRepeat? (.type "tuple")=pure (some (.builtin "tuple.__mul__")):=by
 unfold seqRepeat?
 rw[PySem.seqSlot_of (T:="tuple") (name:="__mul__") (id:="tuple.__mul__") PySem.F.slot_tuple_mul.lookup (by decide +kernel),PySem.seqSlot_of (T:="tuple") (name:="__rmul__") (id:="tuple.__rmul__") PySem.F.slot_tuple_rmul.lookup (by decide +kernel)]
 rfl
theorem int_rmul_tuple (a:Int)(t:Tok)(l:Addr)(items:Array Value)(n:Nat)(dd:Option Addr)(sl:Array (Option Value)) :
  Meets (Builtin.«int.__rmul__» ⟨[.int a t,.ref l],[]⟩) (fun _ R s=>s.heap.get? l=some { cls:=.type "tuple",dict:=dd,data:=.seq items n,slots:=sl }∧R (.ok (.ret Value.notImplemented)) s) :=
 .of_wp fun prog w A R s h=>by obtain⟨hp,g,d,tk,os⟩:=s; obtain⟨hl,h⟩:=h; wp_walk using wpAny_load hl; exact⟨_,rfl,h⟩
theorem tuple_mulW (l:Addr)(items:Array Value)(n:Nat)(dd:Option Addr)(sl:Array (Option Value))(k:Int)(t:Tok)(h1:¬ (items.isEmpty=true))(h2:2≤k)(h3:k<2 ^ 63)(h4:items.size*k.toNat≤sizeLine) :
  Meets (Builtin.«tuple.__mul__» ⟨[.ref l,.int k t],[]⟩) (fun _ R s=>s.heap.get? l=some { cls:=.type "tuple",dict:=dd,data:=.seq items n,slots:=sl }∧R (.ok (.ret (Value.ref s.heap.objs.size))) { s with heap:=s.heap.push { cls:=Value.type "tuple",data:=Data.seq ((List.replicate k.toNat items).foldl (·++·) #[]) },toks:=s.toks }) :=
 .of_wp fun prog w A R s h=>by
  obtain⟨hp,g,d,tk,os⟩:=s; obtain⟨hl,h⟩:=h
  have f1:=AutoSeq1.idx_int; have f2:=AutoSeq1.sub_tuple_tuple
  have c1:(decide (k < -(2 ^ 63))||decide (k ≥ 2 ^ 63))=false:=by rw[decide_eq_false (by lia),decide_eq_false (by lia)]; rfl
  have c2:(items.isEmpty||k == 1)=false:=by
   cases hi:items.isEmpty with
   |true=>exact absurd hi h1
   |false=>simp; lia
  have c3:(decide (k≤0)||items.isEmpty)=false:=by
   cases hi:items.isEmpty with
   |true=>exact absurd hi h1
   |false=>simp; lia
  have c4:¬ ((items.size:Int)*k > (2 ^ 63-1) / 8):=by
   have z:((items.size*k.toNat:Nat):Int)≤sizeLine:=by exact_mod_cast h4
   rw[Int.natCast_mul,Int.toNat_of_nonneg (by lia)] at z
   have:(sizeLine:Int)≤(2 ^ 63-1) / 8:=by decide
   lia
  have c5:Builtin.Tuple.tupleTooMany ((items.size:Int)*k)=false:=by
   have z:((items.size*k.toNat:Nat):Int)≤sizeLine:=by exact_mod_cast h4
   rw[Int.natCast_mul,Int.toNat_of_nonneg (by lia)] at z
   unfold Builtin.Tuple.tupleTooMany
   exact decide_eq_false (by lia)
  have c1':¬ ((decide (k < -(2 ^ 63))||decide (k ≥ 2 ^ 63))=true):=by rw[c1]; exact Bool.false_ne_true
  have c2':¬ ((items.isEmpty||k == 1)=true):=by rw[c2]; exact Bool.false_ne_true
  have c3':¬ ((decide (k≤0)||items.isEmpty)=true):=by rw[c3]; exact Bool.false_ne_true
  have c5':¬ (Builtin.Tuple.tupleTooMany ((items.size:Int)*k)=true):=by rw[c5]; exact Bool.false_ne_true
  have hs:((List.replicate k.toNat items).foldl (·++·) #[]).size≤sizeLine:=by
   have e:∀ (m:Nat) (acc:Array Value),((List.replicate m items).foldl (·++·) acc).size=acc.size+m*items.size:=by
    intro m
    induction m with
    |zero=>intro acc; simp
    |succ m ih=>intro acc; rw[List.replicate_succ,List.foldl_cons,ih,Array.size_append,Nat.succ_mul]; lia
   rw[e]
   simp only[Array.size_empty,Nat.zero_add]
   rw[Nat.mul_comm]; exact h4
  wp_walk using wpAny_loadPart' hl
  rw[if_neg c1']
  wp_walk using wpAny_loadPart' hl
  rw[if_neg c2']
  try dsimp only
  rw[if_neg c3']
  try dsimp only
  rw[if_neg c4]
  try dsimp only
  rw[if_neg c5']
  try dsimp only
  wp_walk
  exact⟨_,rfl,h⟩
end HT
namespace L2
open PySem PySem.Spec PyProof.Rows
section
variable {X:Cx}{K:PySem.W.Frag}{a b c e:Expr}{fa fb fc f:FD}{pos:Pos}{k:Nat}
def rCatL (K:PySem.W.Frag):R2:=fun x y H Q=>∃ l b xs zs,x=.ref l∧y=.ref b∧SqL K H l xs∧SqL K H b zs∧xs.length+zs.length≤sizeLine∧∀ p,H p=none→Q (.ref p) (upd H p (.lst (xs++zs)))
theorem op_catL:OpR X (binaryOp .Add) (rCatL X.K):=by
 intro pins s σ H x y v u Q I rx ry h
 obtain⟨l,b,xs,zs,rfl,rfl,hl,hb,hz,q⟩:=h
 cases rx
 cases ry
 obtain⟨its,r,⟨o,n,ho,hc,hdd,hd⟩,_⟩:=I.list hl
 obtain⟨its2,r2,⟨o2,n2,ho2,hc2,hdd2,hd2⟩,_⟩:=I.list hb
 obtain⟨cls,dd,data,sl⟩:=o
 obtain⟨cls2,dd2,data2,sl2⟩:=o2
 simp only at hc hd hc2 hd2
 subst hc hd hc2 hd2
 have l1:=r.length
 have l2:=r2.length
 refine concat_meets ⟨_,ho,rfl⟩ ⟨_,ho2,rfl⟩ noFill_list_add seq_list_add PySem.F.slot_list_add PySem.F.entry_list_add (PySem.F.args_list_add_2 _ _) (list_addW l b its.toArray its2.toArray n n2 dd dd2 sl sl2 (by simp only[List.size_toArray]; lia)) ⟨ho,ho2,?_⟩
 have ea:its.toArray++its2.toArray=(its++its2).toArray:=by simp
 rw[ea]
 exact⟨.ref _,_,I.lnew (t':=s.toks) (r.append r2) (by rw[List.length_append]; lia),rfl,q _ I.fresh⟩
def oPlus:Th→Th→Option Th
 |.lst xs,.lst ys=>if smallN (xs.length+ys.length)=true then some (.lst (xs++ys)) else none
 |x,y=>oAdd x y
def rPlus (K:PySem.W.Frag):R2:=fun x y H Q=>rAddA K x y H Q∨rCatL K x y H Q
theorem op_plus:OpR X (binaryOp .Add) (rPlus X.K):=op_addA.or op_catL
theorem opD_plus:OpD K (rPlus K) oPlus:=fun H O v u x y z Q hn hx hy e q=>by
 unfold oPlus at e
 split at e
 ·split at e
  ·rename_i hz
   cases e
   obtain⟨a,xs,rfl,h1,b1⟩:=hx.lst
   obtain⟨b,ys,rfl,h2,b2⟩:=hy.lst
   have z:=smallN_le hz
   rw[← b1.length,← b2.length] at z
   exact .inr ⟨a,b,xs,ys,rfl,rfl,h1,h2,z,fun p hp=>q _ _ (Same.upd hp) (.lst (SqL.of (less_of upd_same (hn p hp))) ((b1.append b2).mono (less_mono (Same.upd hp))))⟩
  ·cases e
 ·exact .inl (opD_add H O v u x y z Q hn hx hy e q)
theorem pd_plus (ha:PB X a fa)(hb:PB X b fb):PD X (.BinOp a .Add b pos) (f2 oPlus fa fb):=pd_op op_plus opD_plus ha hb
def rMulT (K:PySem.W.Frag):R2:=fun x y H Q=>∃ l j xs,x=.ref l∧y=.int j∧SqT K H l xs∧xs≠[]∧2≤j∧j<2 ^ 63∧xs.length*j.toNat≤sizeLine∧∀ p,H p=none→Q (.ref p) (upd H p (.tup (List.replicate j.toNat xs).flatten))
theorem op_mulT:OpR X (binaryOp .Mult) (rMulT X.K):=by
 intro pins s σ H x y v u Q I rx ry h
 obtain⟨l,j,xs,rfl,rfl,hl,hne,h2,h3,hz,q⟩:=h
 cases rx
 obtain⟨t,rfl⟩:=ry
 obtain⟨its,r,⟨o,ho,hc,n,hd⟩,_⟩:=I.tuple hl
 obtain⟨cls,dd,data,sl⟩:=o
 simp only at hc hd
 subst hc hd
 have l1:=r.length
 have hnew:List.foldl (fun x1 x2=>x1++x2) #[] (List.replicate j.toNat its.toArray)=(List.replicate j.toNat its).flatten.toArray:=by
  have:=foldl_rep its j.toNat []
  rw[List.nil_append] at this
  exact this
 refine wpAny_binaryOp_repeat_ref (T:="tuple") (U:="int") (by decide) ⟨_,ho,rfl⟩ (fun s'=>typeIs_int s' j t) HT.noFill_tuple_mul PySem.F.fills_int_mul PySem.F.slot_int_rmul HT.repeat_tuple PySem.F.slot_int_index.lookup
  (call_meets PySem.F.slot_int_rmul (typeIs_int s j t) PySem.F.entry_int_rmul (PySem.F.args_int_rmul_2 _ _) (HT.int_rmul_tuple j t l its.toArray n dd sl)
   ⟨ho,rfl,⟨_,ho,rfl⟩,call_meets PySem.F.slot_tuple_mul ⟨_,ho,rfl⟩ PySem.F.entry_tuple_mul (PySem.F.args_tuple_mul_2 _ _) (HT.tuple_mulW l its.toArray n dd sl j t (by
    have:its≠[]:=fun z=>hne (r.nil_iff.mp z)
    simpa using this) h2 h3 (by rw[List.size_toArray,← l1]; exact hz)) ⟨ho,?_⟩⟩)
 rw[hnew]
 exact⟨.ref _,_,I.laid (t':=s.toks) (o:=.tup (List.replicate j.toNat xs).flatten) (fun b ob q=>Heap.get?_push_of_some _ q) (Nat.le_refl _) ⟨by rw[len_rep,Nat.mul_comm]; exact hz,_,r.rep j.toNat,IsTup.new _ _⟩,rfl,q _ (I.hok.fresh (Nat.le_refl _))⟩
def oTimes:Th→Th→Option Th
 |.tup xs,.int j=>if decide (xs.length≠0∧2≤j∧j≤1000000∧xs.length*j.toNat≤1000000)=true then some (.tup (List.replicate j.toNat xs).flatten) else none
 |x,y=>oMul x y
def rTimes (K:PySem.W.Frag):R2:=fun x y H Q=>rMulA x y H Q∨rMulT K x y H Q
theorem op_times:OpR X (binaryOp .Mult) (rTimes X.K):=op_mulA.or op_mulT
theorem opD_times:OpD K (rTimes K) oTimes:=fun H O v u x y z Q hn hx hy e q=>by
 unfold oTimes at e
 split at e
 ·split at e
  ·rename_i hc
   obtain⟨h1,h2,h3,h4⟩:=of_decide_eq_true hc
   cases e
   obtain⟨a,xs,rfl,g1,b1⟩:=hx.tup
   rw[← b1.length] at h1 h4
   exact .inr ⟨a,_,xs,rfl,hy.int,(less_sub H O).seqT g1,fun z=>h1 (by rw[z]; rfl),h2,by lia,Nat.le_trans h4 (by decide),fun p hp=>q _ _ (Same.upd hp) (.tup (SqT.of (less_of upd_same (hn p hp))) ((b1.rep _).mono (less_mono (Same.upd hp))))⟩
  ·cases e
 ·exact .inl (opD_mul H O v u x y z Q hn hx hy e q)
theorem pd_times (ha:PB X a fa)(hb:PB X b fb):PD X (.BinOp a .Mult b pos) (f2 oTimes fa fb):=pd_op op_times opD_times ha hb
theorem pd_callT' {T:String}{x:Str}{p:Pos}{es:List Expr}{fs:FL}{r:List V→Hp→VK→Prop}{g:List Th→Option Th}(hc:CallR X (.type T) r)(hr:CallD X.K r g)(hg:Gl X x)(hm:X.mg x=none)(hv:bootBuiltins x=some (.type T))(ha:PBA X (e::es) fs)
  (hn:x≠"__name__":=by decide) (hdb:(x == ("__debug__":Str))=false:=by decide) (he:starEach (e::es) X.env=(false,eval e X.env)::starEach es X.env:=by rfl) (hpl:(backTo pos (starEach es X.env)).any (·.1)=false:=by rfl) :
  PD X (.Call (.Name x p) (e::es) [] pos) (fCB g fs):=PE.imp (pe_callTy hc hg hm hv ha hn hdb he hpl) (cb_lift hr)
def oTuple:List Th→Option Th
 |[.lst ts]=>some (.tup ts)
 |[.tup ts]=>some (.tup ts)
 |_=>none
theorem callD_tuple:CallD K (fun xs H Q=>∃ p ys,xs=[.ref p]∧((SqL K H p ys∧∀ l,H l=none→Q (.ref l) (upd H l (.tup ys)))∨(SqT K H p ys∧Q (.ref p) H))) oTuple:=fun H O vs ts z Q hn h e q=>by
 unfold oTuple at e
 split at e
 ·obtain⟨v,rfl,h1⟩:=paired1 h
  cases e
  obtain⟨a,xs,rfl,h2,b⟩:=h1.lst
  exact⟨a,xs,rfl,.inl ⟨h2,fun p hp=>q _ _ (Same.upd hp) (.tup (SqT.of (less_of upd_same (hn p hp))) (b.mono (less_mono (Same.upd hp))))⟩⟩
 ·obtain⟨v,rfl,h1⟩:=paired1 h
  cases e
  obtain⟨a,xs,rfl,h2,b⟩:=h1.tup
  exact⟨a,xs,rfl,.inr ⟨(less_sub H O).seqT h2,q _ H (Same.refl H) (.tup h2 b)⟩⟩
 ·cases e
theorem pd_tuple {p:Pos} {es:List Expr} {fs:FL} (hg:Gl X "tuple") (hm:X.mg "tuple"=none) (ha:PBA X (e::es) fs) (he:starEach (e::es) X.env=(false,eval e X.env)::starEach es X.env:=by rfl) (hpl:(backTo pos (starEach es X.env)).any (·.1)=false:=by rfl):PD X (.Call (.Name "tuple" p) (e::es) [] pos) (fCB oTuple fs) :=
 pd_callT' call_tuple_of callD_tuple hg hm (by rfl) ha (by decide) (by decide) he hpl
end
end L2
namespace HT
open PySem PyProof.Rows PySem.Builtin
open PySem.AutoSeq1 (wpAny_loadPart')
section
variable {prog:Program}{w:World}{A:Around}{E:Value→Shared→Prop}{s:Shared}
theorem nextOf_tuple_item {it l:Addr}{i:Nat}{items}{x:Value}{Q:Value→Shared→Prop}(hit:s.heap.IsTupleIter it l i)
  (hl:s.heap.IsTuple l items) (hx:items[i]?=some x)
  (hQ:∀ h',h'.IsTupleIter it l (i+1)→Heap.SameBut it s.heap h'→Q x { s with heap:=h' }) :
  wpAny (model prog w) A (Builtin.SmallTypes.nextOf (.ref it)) Q E s:=by
 obtain⟨o,ho,hc,hd⟩:=id hit
 obtain⟨ol,hol,_,nl,hdl⟩:=hl
 unfold Builtin.SmallTypes.nextOf
 refine wpAny_bind (wpAny_callSpecial?_slot (name:=Str.ofString "__next__") hit.typeIs PySem.F.slot_tuple_iterator_next
  (wpAny_call_entry PySem.F.slot_tuple_iterator_next hit.typeIs PySem.F.entry_tuple_iterator_next ?_ (PySem.F.args_tuple_iterator_next_1 _)))
 show wpAny _ _ (field (.ref it) 0>>=_) _ _ s
 refine wpAny_bind (wpAny_field ho hd (x:=.ref l) rfl ?_)
 show wpAny _ _ (if (Value.ref l == Value.none)=true then _ else _) _ _ s
 rw[if_neg (show ¬ ((Value.ref l == Value.none)=true) from Bool.false_ne_true)]
 show wpAny _ _ (field (.ref it) 1>>=_) _ _ s
 refine wpAny_bind (wpAny_field ho hd (x:=.int i 0) rfl ?_)
 show wpAny _ _ (seqItems? (.ref l)>>=_) _ _ s
 refine wpAny_bind (wpAny_seqItems hol hdl ?_)
 simp only[Int.toNat_natCast,hx]
 refine wpAny_bind (wpAny_setField ho hd (by simp) (wpAny_pure ⟨x,rfl,wpAny_pure (hQ _ ?_ (Heap.SameBut.update ..))⟩))
 exact⟨_,Heap.get?_update_self _ ho (Obj.isFreed_of_fields (Obj.data_mapFields hd _)),(Obj.cls_mapFields ..).trans hc,by
  rw[Obj.data_mapFields hd]; simp[rawInt]⟩
theorem nextOf_tuple_end {it l:Addr}{i:Nat}{items}{Q:Value→Shared→Prop}(hh:A.handled=none)
  (hit:s.heap.IsTupleIter it l i) (hl:s.heap.IsTuple l items) (hx:items[i]?=none)
  (hE:∀ h' e,Heap.ExtBut it s.heap h'→(∃ o,h'.get? e=some o∧o.cls=.type "StopIteration")→E (.ref e) { s with heap:=h' }) :
  wpAny (model prog w) A (Builtin.SmallTypes.nextOf (.ref it)) Q E s:=by
 obtain⟨o,ho,hc,hd⟩:=id hit
 obtain⟨ol,hol,_,nl,hdl⟩:=hl
 unfold Builtin.SmallTypes.nextOf
 refine wpAny_bind (wpAny_callSpecial?_slot (name:=Str.ofString "__next__") hit.typeIs PySem.F.slot_tuple_iterator_next
  (wpAny_call_entry PySem.F.slot_tuple_iterator_next hit.typeIs PySem.F.entry_tuple_iterator_next ?_ (PySem.F.args_tuple_iterator_next_1 _)))
 show wpAny _ _ (field (.ref it) 0>>=_) _ _ s
 refine wpAny_bind (wpAny_field ho hd (x:=.ref l) rfl ?_)
 show wpAny _ _ (if (Value.ref l == Value.none)=true then _ else _) _ _ s
 rw[if_neg (show ¬ ((Value.ref l == Value.none)=true) from Bool.false_ne_true)]
 show wpAny _ _ (field (.ref it) 1>>=_) _ _ s
 refine wpAny_bind (wpAny_field ho hd (x:=.int i 0) rfl ?_)
 show wpAny _ _ (seqItems? (.ref l)>>=_) _ _ s
 refine wpAny_bind (wpAny_seqItems hol hdl ?_)
 simp only[Int.toNat_natCast,hx]
 refine wpAny_bind (wpAny_rule (wpAny_bind (wpAny_setField ho hd (by simp) ?_)))
 show wpAny _ _ (newExc (.type "StopIteration") []>>=_) _ _ _
 refine wpAny_bind ?_
 simp only[newExc,newTuple]
 refine wpAny_bind (wpAny_newObj_type ?_ (by size_fits))
 refine wpAny_bind (m:=firstArgMember _ _) (wpAny_of_eq (a:=Value.none) (by first | rfl | (simp only[firstArgMember]; rfl)) ?_)
 refine wpAny_newObj_type ?_ (by size_fits)
 simp only[raiseNew]
 refine wpAny_bind (wpAny_handled ?_)
 first | rw[show A.in1.handled=none from hh] | rw[hh]
 refine wpAny_bind (wpAny_pure (wpAny_throw ?_))
 exact hE _ _ (((Heap.SameBut.update ..).extBut.push _).push _) ⟨_,Heap.get?_push_size _ rfl,rfl⟩
theorem draws_tuple (hh:A.handled=none)(it l:Addr)(hne:l≠it)(items:Array Value) :
  Draws prog w A it [it,l] items.size (fun i v=>items[i]?=some v) (fun i h=>h.IsTupleIter it l i∧h.IsTuple l items) where
 live:=fun _ _ st=>let ⟨o,ho,_⟩:=st.1; ⟨o,ho⟩
 frame:=fun _ _ _ st hk=>⟨by
  obtain⟨⟨o,ho,r⟩,_⟩:=st
  exact⟨o,hk it (by simp) o ho,r⟩,by
  obtain⟨_,⟨o,ho,r⟩⟩:=st
  exact⟨o,hk l (by simp) o ho,r⟩⟩
 item:=fun i s Q E hi st hQ=>by
  refine nextOf_tuple_item st.1 st.2 (x:=items[i]) (by simp[hi]) fun h' hit' hs'=>?_
  exact hQ _ h' s.toks (by simp[hi]) ⟨hit',st.2.extBut hs'.extBut hne⟩ hs'
 done:=fun s Q E st hE=>nextOf_tuple_end hh st.1 st.2 (by simp) hE
theorem meets_enumerate_newT (l:Addr)(items:Array Value)(n:Nat)(dct:Option Addr)(sl:Array (Option Value)) :
  Meets (Builtin.«enumerate.__new__» ⟨[.type "enumerate",.ref l],[]⟩) (fun _ R s=>s.heap.get? l=some { cls:=.type "tuple",dict:=dct,data:=.seq items n,slots:=sl } ∧
   R (.ok (.ret (.ref (s.heap.push { cls:=.type "tuple_iterator",data:=.fields #[.ref l,.int 0 0] }).objs.size)))
    { s with heap:=(s.heap.push { cls:=.type "tuple_iterator",data:=.fields #[.ref l,.int 0 0] }).push { cls:=.type "enumerate",data:=.fields #[.none,.bool false,.ref s.heap.objs.size,rawInt 0,.none,.none] } }) :=
 .of_wp fun prog w A R s h=>by
  obtain⟨hp,g,d,tk,os⟩:=s; obtain⟨hl,h⟩:=h
  have hsub:=sub_enumerate
  have hL:Heap.IsTuple (Shared.heap ⟨hp,g,d,tk,os⟩) l items:=⟨_,hl,rfl,n,rfl⟩
  wp_walk using wpAny_loadPart' hl
  refine wpAny_stack_any fun st=>wpAny_pure ?_
  split
  ·rename_i c _ _ _ _ _
   cases (c == Value.type "enumerate")
   ·wp_walk using wpAny_loadPart' hl,wpAny_pyIter_tuple hL
    exact⟨_,rfl,h⟩
   ·wp_walk using wpAny_loadPart' hl,wpAny_pyIter_tuple hL
    exact⟨_,rfl,h⟩
  ·wp_walk using wpAny_loadPart' hl,wpAny_pyIter_tuple hL
   exact⟨_,rfl,h⟩
theorem call_enumerate_tuple {l:Addr}{items:Array Value}{Q:Value→Shared→Prop}(hL:s.heap.IsTuple l items)
  (h:∀ h',IsEnum h' (s.heap.objs.size+1) s.heap.objs.size 0 .none→h'.IsTupleIter s.heap.objs.size l 0→h'.objs.size=s.heap.objs.size+2 →
   (∀ b o,s.heap.get? b=some o→h'.get? b=some o)→Q (.ref (s.heap.objs.size+1)) { s with heap:=h' }) :
  wpAny (model prog w) A (call (.type "enumerate") [.ref l]) Q E s:=by
 obtain⟨⟨c,dct,dt,sl⟩,hl,hc,n,hd⟩:=hL
 replace hc:c=.type "tuple":=hc
 replace hd:dt=.seq items n:=hd
 subst hc hd
 refine callType_new PySem.F.called_enumerate (by decide) (PySem.F.typeCall_enumerate_1 _) (PySem.F.newCall_enumerate_1 _) (fun obj=>PySem.F.args_object_init_2 obj _) PySem.F.entry_enumerate_new
  (meets_enumerate_newT l items n dct sl) ⟨hl,?_⟩
 have hz:(s.heap.push { cls:=.type "tuple_iterator",data:=.fields #[.ref l,.int 0 0] }).objs.size=s.heap.objs.size+1:=Heap.size_push ..
 show _∧_
 rw[hz]
 have he:IsEnum ((s.heap.push { cls:=.type "tuple_iterator",data:=.fields #[.ref l,.int 0 0] }).push
   { cls:=.type "enumerate",data:=.fields #[.none,.bool false,.ref s.heap.objs.size,rawInt 0,.none,.none] }) (s.heap.objs.size+1) s.heap.objs.size 0 .none:=by
  have:=Heap.get?_push_size (s.heap.push { cls:=.type "tuple_iterator",data:=.fields #[.ref l,.int 0 0] })
   (o:={ cls:=.type "enumerate",data:=.fields #[.none,.bool false,.ref s.heap.objs.size,rawInt 0,.none,.none] }) rfl
  rw[hz] at this; exact this
 refine⟨⟨_,he,rfl⟩,h _ he ⟨_,Heap.get?_push_of_some _ (Heap.get?_push_size _ rfl),rfl,rfl⟩ (by rw[Heap.size_push,hz]) fun b o x=>Heap.get?_push_of_some _ (Heap.get?_push_of_some _ x)⟩
theorem draws_str (hh:A.handled=none)(it:Addr)(x:Str)(t:Tok) :
  Draws prog w A it [it] x.cps.size (fun i v=>∃ c u,x.cps[i]?=some c∧v=.str ⟨#[c]⟩ u) (fun i h=>h.IsStrIter it (strIterType x) x t i):=by
 cases ha:x.cps.all (·<128)
 ·have e:strIterType x="str_iterator":=by simp[strIterType,ha]
  rw[e]; exact Draws.strWide hh it x t
 ·have e:strIterType x="str_ascii_iterator":=by simp[strIterType,ha]
  rw[e]; exact Draws.strAscii hh it x t
end
end HT
namespace L2
open PySem PySem.Spec PyProof.Rows
theorem Inv.turned2 {X:Cx}{pins:List (Addr×Obj)}{σ:St}{H:Hp}{s:Shared}{h':Heap}{t':Nat}{e it:Addr}(I:Inv X pins σ H s)(k:∀ b o,b≠e→b≠it→s.heap.get? b=some o→h'.get? b=some o)
  (en:H e=none) (eL:e≠X.env.locals) (e1:e∈X.ex∨X.s₀.heap.objs.size≤e) (e2:∀ x c,X.env.cells.lookup x=some c→c≠e) (e3:∀ p∈X.pn++pins,p.1≠e)
  (hn:H it=none) (hL:it≠X.env.locals) (h1:it∈X.ex∨X.s₀.heap.objs.size≤it) (h2:∀ x c,X.env.cells.lookup x=some c→c≠it) (h3:∀ p∈X.pn++pins,p.1≠it):Inv X pins σ H { s with heap:=h',toks:=t' }:=by
 have nit:∀ b u,H b=some u→b≠e∧b≠it:=fun b u q=>⟨(fun z=>by rw[z,en] at q; cases q),(fun z=>by rw[z,hn] at q; cases q)⟩
 refine I.step (g':=s.gens) (d':=s.drawn) (ch:=[e,it]) (fun b hb=>?_) (fun b o _ _ hc q _=>k b o (fun z=>hc (by simp[z])) (fun z=>hc (by simp[z])) q) (fun b o _ _ hc q _=>⟨o.slots,k b o (fun z=>hc (by simp[z])) (fun z=>hc (by simp[z])) q⟩) (fun _ _ _ _ n=>n)
  (fun b o hc q=>⟨o,k b o (fun z=>hc (by simp[z])) (fun z=>hc (by simp[z])) q⟩) (fun _ _ q=>q) (fun _ _ _ q=>q) (fun b ps q=>⟨#[],by rw[q]; simp⟩) (fun m hm=>?_) (fun b u q=>?_) I.bare
 ·have z:b=e∨b=it:=by simpa using hb
  rcases z with rfl | rfl
  ·exact⟨e1,eL,e2,e3⟩
  ·exact⟨h1,hL,h2,h3⟩
 ·obtain⟨o,es,ep,ho,r⟩:=hm
  exact⟨o,es,ep,k _ o (Ne.symm eL) (Ne.symm hL) ho,r⟩
 ·refine (I.hok b u q).stay (fun c v hc z=>k c v ?_ ?_ z) (fun _ z=>z) fun _ _ z=>z
  ·rcases hc with z | z
   ·rw[z]; exact (nit b u q).1
   ·exact (nit c _ z).1
  ·rcases hc with z | z
   ·rw[z]; exact (nit b u q).2
   ·exact (nit c _ z).2
def Ite (J:It):It:=⟨J.go,fun i H x H''=>∃ y H' T,J.yld i H y H'∧x=.ref T∧H' T=none∧H''=upd H' T (.tup [.int i,y]),J.stop⟩
theorem enum_item {X:Cx}{es:List Expr}{k1:Nat}{tp:Pos}{e it:Addr}{i:Nat}{pins:List (Addr×Obj)}{s:Shared}{σ:St}{H:Hp}{E:Value→Shared→Prop}{fp:List Addr}{n:Nat}{P:Nat→Value→Prop}{St:Nat→Heap→Prop}{J:It}{tn:Nat→Heap→Prop}{old:Value}
  (D:Draws X.prog X.w X.A.in1 it fp n P St) (I:Inv X pins σ H s) (hf:∀ b∈[e,it],FpOk X pins H b) (he:IsEnum s.heap e it i old) (hst:St i s.heap) (hlt:i<n) (hne:e≠it) (hef:e∉fp)
  (hP:∀ x,P i x→∃ v,RelV v x∧J.yld i H v H) (hS:∀ h,St (i+1) h→tn (i+1) h) (htn:∀ h h',tn (i+1) h→(∀ b∈[it],∀ o,h.get? b=some o→h'.get? b=some o)→tn (i+1) h') :
  wpAny (model X.prog X.w) X.A (pyNext (.ref e)) (fun r s1=>∃ u,r=some u ∧
   wpAny (model X.prog X.w) X.A (letOwnedTupleGo (.Tuple es k1 tp) (.ref e) u) (fun _ s2=>∃ x H',Inv X pins σ H' s2∧RelV x u∧(Ite J).yld i H x H'∧((∃ old,IsEnum s2.heap e it ((i+1:Nat):Int) old)∧tn (i+1) s2.heap)∧∀ b∈[e,it],H' b=none) E s1) E s:=by
 obtain⟨e0,e1,e2,e3,e4,e5⟩:=hf e (by simp)
 obtain⟨f0,f1,f2,f3,f4,f5⟩:=hf it (by simp)
 refine wpAny_pyNext_enum_itemD D he hst hlt hne hef fun x h' tk hx ho hs' hT hsz hk=>?_
 obtain⟨v,rv,hy⟩:=hP x hx
 refine⟨_,rfl,?_⟩
 refine wpAny_letOwnedTupleGo_enum ho fun h2 he2 hsb=>?_
 have I1:Inv X pins σ H { s with heap:=h2,toks:=tk+1 }:=by
  have k2:∀ b o,b≠e→b≠it→s.heap.get? b=some o→h2.get? b=some o:=fun b o hb1 hb2 hb=>(hsb.2 b hb1).trans (hk b o hb1 hb2 hb)
  exact I.turned2 k2 e0 e1 e3 e4 e5 f0 f1 f3 f4 f5
 have hTn:H s.heap.objs.size=none:=I.fresh
 have hlte:e<s.heap.objs.size:=Heap.lt_size he
 have hlti:it<s.heap.objs.size:=by obtain⟨o,z⟩:=D.live _ _ hst; exact Heap.lt_size z
 have hT2:h2.get? s.heap.objs.size=some { cls:=.type "tuple",data:=.seq #[.int i tk,x] }:=(hsb.2 _ (Nat.ne_of_gt hlte)).trans hT
 obtain⟨g0,g1,g2,g3,g4,g5⟩:=I.fpOk (b:=s.heap.objs.size) (H':=H) (Nat.le_refl _) hTn
 refine⟨.ref s.heap.objs.size,upd H s.heap.objs.size (.tup [.int i,v]),?_,rfl,⟨v,H,s.heap.objs.size,hy,rfl,hTn,rfl⟩,⟨⟨x,by simpa using he2⟩,htn _ _ (hS _ hs') fun b hb o z=>?_⟩,fun b hb=>?_⟩
 ·refine I1.track hTn (Nat.le_trans I.sz (Nat.le_refl _)) g1 g4 g5 ?_
  exact⟨by show 2≤sizeLine; decide,[.int i tk,x],.cons ⟨tk,rfl⟩ (.cons rv .nil),⟨_,hT2,rfl,_,rfl⟩⟩
 ·have:b=it:=by simpa using hb
  subst this
  exact (hsb.2 _ (Ne.symm hne)).trans z
 ·have:b=e∨b=it:=by simpa using hb
  rcases this with rfl | rfl
  ·rw[upd_ne (Nat.ne_of_lt hlte)]; exact e0
  ·rw[upd_ne (Nat.ne_of_lt hlti)]; exact f0
theorem enum_obj {e it:Addr}{i:Int}{h:Heap}(he:∃ old,IsEnum h e it i old){b:Addr}(hb:b=e):∃ o,h.get? b=some o∧∀ v,o.data≠.cell v:=by
 subst hb
 obtain⟨old,he⟩:=he
 exact⟨_,he,fun v z=>by cases z⟩
theorem turn_enumS {P:Program}{w:World}{K:PySem.W.Frag}{es:List Expr}{k1:Nat}{tp:Pos}(x:Str)(t:Tok)(e it:Addr)(hne:e≠it):Turn P w K (.Tuple es k1 tp) (Ite (Its x)) [e,it] e (fun i h=>(∃ old,IsEnum h e it i old)∧h.IsStrIter it (strIterType x) x t i) where
 mem:=by simp
 obj:=fun i h st b hb=>by
  have z:b=e∨b=it:=by simpa using hb
  rcases z with z | z
  ·exact enum_obj st.1 z
  ·subst z
   obtain⟨o,e,c,d⟩:=st.2
   exact⟨o,e,fun v z=>by rw[d] at z; cases z⟩
 keep:=fun i h h' st k=>by
  obtain⟨⟨old,he⟩,o,e',r⟩:=st
  exact⟨⟨old,k e (by simp) _ he⟩,o,k it (by simp) o e',r⟩
 item:=by
  intro X hP hw hK hc i pins s σ H E I hf st hg
  subst hP hw hK
  obtain⟨⟨old,he⟩,hs⟩:=st
  exact enum_item (J:=Its x) (tn:=fun i h=>h.IsStrIter it (strIterType x) x t i) (HT.draws_str (A:=X.A.in1) (I.ok.hd hc) it x t) I hf he hs hg hne (by simpa using hne) (fun v ⟨c,u,hcc,ev⟩=>by
   subst ev; exact⟨.str ⟨#[c]⟩,⟨u,rfl⟩,rfl,c,hcc,rfl⟩) (fun h z=>z) fun h h' ⟨o,e',r⟩ k=>⟨o,k it (by simp) o e',r⟩
 done:=by
  intro X hP hw hK hc i pins s σ H E I hf st hg
  subst hP hw hK
  obtain⟨⟨old,he⟩,hs⟩:=st
  obtain⟨f0,f1,f2,f3,f4,f5⟩:=hf it (by simp)
  have hg':i=x.cps.size:=hg
  subst hg'
  exact wpAny_pyNext_enum_endD (HT.draws_str (A:=X.A.in1) (I.ok.hd hc) it x t) he hs fun h' eb=>⟨rfl,I.turned (t':=s.toks) (fun b o hb e=>eb b o hb e) f0 f1 f3 f4 f5⟩
 self:=fun _ _ _ _ _ st h=>let ⟨⟨_,he⟩,_⟩:=st; wpAny_pyIter_enum he h
def Ittx (K:PySem.W.Frag)(a:Addr):It:=⟨(Itt K a).go,(Itt K a).yld,fun i H=>∃ xs,SqT K H a xs∧xs.length=i⟩
theorem turn_enumT {P:Program}{w:World}{K:PySem.W.Frag}{es:List Expr}{k1:Nat}{tp:Pos}(a e it:Addr)(hne:e≠it)(hae:a≠e)(hai:a≠it):Turn P w K (.Tuple es k1 tp) (Ite (Ittx K a)) [e,it] e (fun i h=>(∃ old,IsEnum h e it i old)∧h.IsTupleIter it a i) where
 mem:=by simp
 obj:=fun i h st b hb=>by
  have z:b=e∨b=it:=by simpa using hb
  rcases z with z | z
  ·exact enum_obj st.1 z
  ·subst z
   obtain⟨o,e,c,d⟩:=st.2
   exact⟨o,e,fun v z=>by rw[d] at z; cases z⟩
 keep:=fun i h h' st k=>by
  obtain⟨⟨old,he⟩,o,e',r⟩:=st
  exact⟨⟨old,k e (by simp) _ he⟩,o,k it (by simp) o e',r⟩
 item:=by
  intro X hP hw hK hc i pins s σ H E I hf st hg
  subst hP hw hK
  obtain⟨⟨old,he⟩,hs⟩:=st
  obtain⟨xs,x,hq,hx⟩:=hg
  obtain⟨its,rv,p,hz⟩:=I.tuple hq
  obtain⟨u,hu,ru⟩:=rv.get hx
  have hi:i<its.toArray.size:=by
   have:=(List.getElem?_eq_some_iff.mp hu).1
   simpa using this
  exact enum_item (J:=Ittx X.K a) (tn:=fun i h=>h.IsTupleIter it a i) (HT.draws_tuple (A:=X.A.in1) (I.ok.hd hc) it a hai its.toArray) I hf he ⟨hs,p⟩ hi hne (by simp[hne,Ne.symm hae]) (fun v ev=>by
   have ev':v=u:=by
    have:its[i]?=some v:=by simpa using ev
    rw[hu] at this; cases this; rfl
   subst ev'
   exact⟨x,ru,rfl,fun ys hy=>by rw[I.tuple_inj hy hq]; exact hx⟩) (fun h z=>z.1) fun h h' ⟨o,e',r⟩ k=>⟨o,k it (by simp) o e',r⟩
 done:=by
  intro X hP hw hK hc i pins s σ H E I hf st hg
  subst hP hw hK
  obtain⟨⟨old,he⟩,hs⟩:=st
  obtain⟨xs,hq,hx⟩:=hg
  obtain⟨its,rv,p,hz⟩:=I.tuple hq
  obtain⟨f0,f1,f2,f3,f4,f5⟩:=hf it (by simp)
  have hl:=rv.length
  have hi:i=its.toArray.size:=by rw[List.size_toArray]; lia
  rw[hi] at hs he
  exact wpAny_pyNext_enum_endD (HT.draws_tuple (A:=X.A.in1) (I.ok.hd hc) it a hai its.toArray) he ⟨hs,p⟩ fun h' eb=>⟨rfl,I.turned (t':=s.toks) (fun b o hb e=>eb b o hb e) f0 f1 f3 f4 f5⟩
 self:=fun _ _ _ _ _ st h=>let ⟨⟨_,he⟩,_⟩:=st; wpAny_pyIter_enum he h
theorem tup_is' {X:Cx}{pins:List (Addr×Obj)}{σ:St}{H:Hp}{s:Shared}(I:Inv X pins σ H s){a:Addr}{xs:List V}(e:SqT X.K H a xs):∃ its:List Value,Vals xs its∧s.heap.IsTuple a its.toArray:=let ⟨its,r,p,_⟩:=I.tuple e; ⟨its,r,p⟩
def iEnum (K:PySem.W.Frag)(ta:TA):TI:=fun σ H R=>ta σ H fun vs H1=>(∃ x,vs=[.str x]∧R (Ite (Its x)) H1)∨(∃ a xs,vs=[.ref a]∧SqT K H1 a xs∧R (Ite (Ittx K a)) H1)
theorem pi_enum {X:Cx} {es:List Expr} {k1:Nat} {tp:Pos} {a:Expr} {ta:TA} {p pos:Pos} (hg:Gl X "enumerate") (hm:X.mg "enumerate"=none) (ha:PA X [a] ta) (hs:starEach [a] X.env=[(false,eval a X.env)]:=by rfl):PI X (.Tuple es k1 tp) (.Call (.Name "enumerate" p) [a] [] pos) (iEnum X.K ta):=by
 intro pins s σ H R I h
 refine Call_ (ld_blt I hg hm boot_enumerate (PyProof.Rows.callWith_type1 (thn (ha pos pins s σ H _ I h) fun us s1 ⟨vs,H1,I1,r1,q1⟩=>?_) hs rfl))
 have fpo:∀ b∈[s1.heap.objs.size+1,s1.heap.objs.size],FpOk X pins H1 b:=fun b hb=>by
  have z:b=s1.heap.objs.size+1∨b=s1.heap.objs.size:=by simpa using hb
  have hle:s1.heap.objs.size≤b:=by rcases z with z | z <;> lia
  exact I1.fpOk hle (I1.hok.fresh hle)
 rcases q1 with ⟨x,rfl,q⟩ | ⟨b,xs,rfl,hx,q⟩
 ·cases r1 with
  |cons r rr =>
   cases rr
   obtain⟨t,rfl⟩:=r
   refine call_enumerate_str fun h' he hi hz kp=>?_
   refine wpAny_pyIter_enum he ?_
   exact⟨_,[s1.heap.objs.size+1,s1.heap.objs.size],_,_,H1,rfl,I1.kept (t':=s1.toks) kp,turn_enumS x t (s1.heap.objs.size+1) s1.heap.objs.size (Nat.succ_ne_self _),⟨⟨_,by simpa using he⟩,hi⟩,fpo,q⟩
 ·cases r1 with
  |cons r rr =>
   cases rr
   cases r
   obtain⟨its,rv,hT⟩:=tup_is' I1 hx
   have hlt:b<s1.heap.objs.size:=by obtain⟨o,e,_⟩:=hT; exact Heap.lt_size e
   refine HT.call_enumerate_tuple hT fun h' he hi hz kp=>?_
   refine wpAny_pyIter_enum he ?_
   exact⟨_,[s1.heap.objs.size+1,s1.heap.objs.size],_,_,H1,rfl,I1.kept (t':=s1.toks) kp,turn_enumT b (s1.heap.objs.size+1) s1.heap.objs.size (Nat.succ_ne_self _) (Nat.ne_of_lt (Nat.lt_succ_of_lt hlt)) (Nat.ne_of_lt hlt),⟨⟨_,by simpa using he⟩,hi⟩,fpo,q⟩
def numbered:Nat→List Th→List Th
 |_,[]=>[]
 |k,t::r=>.tup [.int k,t]::numbered (k+1) r
theorem numbered_length:∀ (k:Nat) (ts:List Th),(numbered k ts).length=ts.length
 |_,[]=>rfl
 |k,t::r=>by simp[numbered,numbered_length (k+1) r]
theorem numbered_get:∀ (k:Nat) (ts:List Th) (i:Nat) (t:Th),ts[i]?=some t→(numbered k ts)[i]?=some (.tup [.int ((k+i:Nat):Int),t])
 |_,[],i,t,e=>by simp at e
 |k,x::r,0,t,e=>by simp at e; subst e; simp[numbered]
 |k,x::r,i+1,t,e=>by
  have:=numbered_get (k+1) r i t (by simpa using e)
  simp only[numbered,List.getElem?_cons_succ,this]
  rw[show k+1+i=k+(i+1) by lia]
section
variable {X:Cx}{K:PySem.W.Frag}
theorem itok_enum {J:It}{B:Hp}{f:Addr→Prop}{ts:List Th}(h:ItOk K J B f ts):ItOk K (Ite J) B f (numbered 0 ts) where
 go:=fun i H s hi=>h.go i H s (by rw[numbered_length] at hi; exact hi)
 stop:=fun H s=>by rw[numbered_length]; exact h.stop H s
 yld:=fun i H O x H' hi hf s hn y=>by
  rw[numbered_length] at hi
  obtain⟨v,H1,T,hy,rfl,hT,rfl⟩:=y
  obtain⟨s1,t,ht,b⟩:=h.yld i H O v H1 hi hf s hn hy
  have s2:Same H1 (upd H1 T (.tup [.int i,v])):=Same.upd hT
  have nT:¬ O.has T:=hn T (s1.free hT)
  refine⟨s1.trans s2,_,by simpa using numbered_get 0 ts i t ht,?_⟩
  exact .tup (SqT.of (less_of upd_same nT)) (.cons (.int _) (.cons (b.mono (less_mono s2)) .nil))
theorem itok_tupx {H:Hp}{O:Hid}{a:Addr}{xs:List V}{ts:List Th}(h:SqT K (less H O) a xs)(b:BearsL K (less H O) xs ts):ItOk K (Ittx K a) (low H O) O.far ts where
 go:=(itok_tup h b).go
 stop:=fun H' s=>by
  have hl:SqT K H' a xs:=by
   rcases h with (h | ⟨o,h⟩) | h
   ·exact .inl (.inl (s _ _ (low_of (of_less h).1 fun z=>(of_less h).2 (.inl z))))
   ·exact .inl (.inr ⟨o,s _ _ (low_of (of_less h).1 fun z=>(of_less h).2 (.inl z))⟩)
   ·exact .inr h
  exact⟨xs,hl,b.length⟩
 yld:=(itok_tup h b).yld
def fEnum (f:FD):FL:=fun d=>(f d).bind fun T=>match T with | .str x=>some (numbered 0 (signs x)) | .tup ts=>some (numbered 0 ts) | _=>none
theorem pdi_enum {es:List Expr} {k1:Nat} {tp:Pos} {a:Expr} {f:FD} {p pos:Pos} (hg:Gl X "enumerate") (hm:X.mg "enumerate"=none) (ha:PD X a f) (hs:starEach [a] X.env=[(false,eval a X.env)]:=by rfl) (hs1:starEach [a] X.env=(false,eval a X.env)::starEach [] X.env:=by rfl):PDI X (.Tuple es k1 tp) (.Call (.Name "enumerate" p) [a] [] pos) (fEnum f) :=
 PI.imp (pi_enum hg hm (pa_cons ha pa_nil hs1) hs) fun σ H R ⟨O,d,ts,r,e,q⟩=>by
  unfold fEnum at e
  cases hf:f d with
  |none=>rw[hf] at e; cases e
  |some T =>
   rw[hf] at e
   cases T with
   |str x=>cases e; exact⟨O,d,_,r,hf,fun v H' s b=>by cases b; exact .inl ⟨x,rfl,q _ H' s (itok_enum (itok_str x))⟩⟩
   |tup us=>cases e; exact⟨O,d,_,r,hf,fun v H' s b=>by cases b with | tup e' b'=>exact .inr ⟨_,_,rfl,(less_sub H' O).seqT e',q _ H' s (itok_enum (itok_tupx e' b'))⟩⟩
   |_=>cases e
end
section
variable {X:Cx}{K:PySem.W.Frag}{o a b c e:Expr}{fo fa fb fc f:FD}{pos:Pos}{k:Nat}
def rM1 (g:Str→Str→Option V):V→List V→Hp→VK→Prop:=fun x xs H Q=>∃ z y r,x=.str z∧xs=[.str y]∧g z y=some r∧Q r H
theorem mt_find:MtR X "str.find" (rM1 fun z y=>some (.int (Txt.find z y))):=by
 intro pins s σ H x xs v us Q I rx rs h
 obtain⟨z,y,r,rfl,rfl,e,q⟩:=h
 cases e
 obtain⟨t,rfl⟩:=rx
 obtain⟨u,rfl,ru⟩:=vals1 rs
 obtain⟨t2,rfl⟩:=ru
 exact SC.find ⟨.int _,H,I.tok _,⟨_,rfl⟩,q⟩
theorem mt_starts:MtR X "str.startswith" (rM1 fun z y=>some (.bl (Txt.startswith z y))):=by
 intro pins s σ H x xs v us Q I rx rs h
 obtain⟨z,y,r,rfl,rfl,e,q⟩:=h
 cases e
 obtain⟨t,rfl⟩:=rx
 obtain⟨u,rfl,ru⟩:=vals1 rs
 obtain⟨t2,rfl⟩:=ru
 exact SC.startswith ⟨.bl _,H,I,rfl,q⟩
def fM1 (g:Str→Str→Option Th)(fo fa:FD):FD:=f2 (fun x y=>match x,y with | .str z,.str w=>g z w | _,_=>none) fo fa
theorem m1_lift {g:Str→Str→Option Th} {g':Str→Str→Option V} (hg:∀ z w T,g z w=some T→∃ v,g' z w=some v∧∀ H,Bears K H v T):∀ σ H Q,liftD K (fM1 g fo fa) σ H Q→tBM K "str" (rM1 g') (liftB K fo) (liftAB K (fCons fa fNil)) σ H Q:=fun σ H Q ⟨O,d,T,R,e,q⟩=>by
 obtain⟨x,y,h1,h2,e⟩:=f2_some e
 cases x with
 |str z =>
  cases y with
  |str w =>
   obtain⟨v,hv,bv⟩:=hg z w T e
   refine⟨O,d,_,R,h1,fun v1 H1 s1 b1=>?_⟩
   rw[b1.str]
   refine⟨rfl,O,d,[.str w],R.mono s1,by unfold fCons fNil; rw[h2]; rfl,fun vs H2 s2 b2=>?_⟩
   obtain⟨u,rfl,bu⟩:=paired1 b2
   rw[bu.str]
   exact⟨z,w,v,rfl,rfl,hv,q v H2 (s1.trans s2) (bv _)⟩
  |_=>cases e
 |_=>cases e
theorem pd_m1 {name:Str} {id:String} {apos cpos:Pos} {g:Str→Str→Option Th} {g':Str→Str→Option V} (hg:∀ z w T,g z w=some T→∃ v,g' z w=some v∧∀ H,Bears X.K H v T) (slot:Slot "str" name id) (hty:typeOf (.builtin id)=pure (.type "method_descriptor")) (hm:MtR X id (rM1 g')) (ho:PB X o fo) (ha:PB X e fa)
  (hbase:attributeBase o name X.env (eval o X.env)=eval o X.env:=by rfl)
  (hfew:((backTo cpos (starEach (e::[]) X.env)).all (fun x=>!x.1)&&(backToKw cpos (keywordEach [] X.env)).all (fun x=>x.1.isSome)
  &&decide ((e::[]).length+([]:List Keyword).length+(if ([]:List Keyword).isEmpty then 0 else 1)<30))=true:=by rfl)
  (hline:(apos.endLine == cpos.line)=true:=by rfl) (hs:starEach (e::[]) X.env=(false,eval e X.env)::starEach [] X.env:=by rfl) (hplain:(backTo cpos (starEach [] X.env)).any (·.1)=false:=by rfl) :
  PD X (.Call (.Attribute o name apos) [e] [] cpos) (fM1 g fo fa):=PE.imp (pe_bm PySem.F.plainAttrs_str slot hty hm ho (pba_cons ha pba_nil hs) hbase hfew hline hs hplain) (m1_lift hg)
theorem pd_find {apos cpos:Pos}(ho:PB X o fo)(ha:PB X e fa)
  (hbase:attributeBase o "find" X.env (eval o X.env)=eval o X.env:=by rfl)
  (hfew:((backTo cpos (starEach (e::[]) X.env)).all (fun x=>!x.1)&&(backToKw cpos (keywordEach [] X.env)).all (fun x=>x.1.isSome)
  &&decide ((e::[]).length+([]:List Keyword).length+(if ([]:List Keyword).isEmpty then 0 else 1)<30))=true:=by rfl)
  (hline:(apos.endLine == cpos.line)=true:=by rfl) (hs:starEach (e::[]) X.env=(false,eval e X.env)::starEach [] X.env:=by rfl) (hplain:(backTo cpos (starEach [] X.env)).any (·.1)=false:=by rfl) :
  PD X (.Call (.Attribute o "find" apos) [e] [] cpos) (fM1 (fun z y=>some (.int (Txt.find z y))) fo fa) :=
 pd_m1 (fun z w T e=>by cases e; exact⟨_,rfl,fun _=>.int _⟩) PySem.F.slot_str_find PySem.F.type_str_find mt_find ho ha hbase hfew hline hs hplain
theorem pd_starts {apos cpos:Pos}(ho:PB X o fo)(ha:PB X e fa)
  (hbase:attributeBase o "startswith" X.env (eval o X.env)=eval o X.env:=by rfl)
  (hfew:((backTo cpos (starEach (e::[]) X.env)).all (fun x=>!x.1)&&(backToKw cpos (keywordEach [] X.env)).all (fun x=>x.1.isSome)
  &&decide ((e::[]).length+([]:List Keyword).length+(if ([]:List Keyword).isEmpty then 0 else 1)<30))=true:=by rfl)
  (hline:(apos.endLine == cpos.line)=true:=by rfl) (hs:starEach (e::[]) X.env=(false,eval e X.env)::starEach [] X.env:=by rfl) (hplain:(backTo cpos (starEach [] X.env)).any (·.1)=false:=by rfl) :
  PD X (.Call (.Attribute o "startswith" apos) [e] [] cpos) (fM1 (fun z y=>some (.bl (Txt.startswith z y))) fo fa) :=
 pd_m1 (fun z w T e=>by cases e; exact⟨_,rfl,fun _=>.bl _⟩) PySem.F.slot_str_startswith PySem.F.type_str_startswith mt_starts ho ha hbase hfew hline hs hplain
end
def runD (n m:Nat)(b:FS):List Th→Option Th:=fun Ts=>if Ts.length=n then (match b (Ts.map (fun T=>some (Dv.th T))++List.replicate (m-Ts.length) none) with | some (.rt T)=>some T | _=>none) else none
theorem runD_some {n m:Nat}{b:FS}{Ts:List Th}{T:Th}(e:runD n m b Ts=some T):Ts.length=n∧b (Ts.map (fun T=>some (Dv.th T))++List.replicate (m-Ts.length) none)=some (.rt T):=by
 unfold runD at e
 split at e
 ·rename_i h
  refine⟨h,?_⟩
  split at e
  ·rename_i h2; cases e; exact h2
  ·cases e
 ·cases e
def compOk (N:List Str)(sc scope:Scope):Bool:=scope.kind == .function&&scope.names.all (fun y=>y.2 != .cell)&&scope.names.all (fun y=>y.2 != .local||scope.names.lookup y.1 == some .local)
&&scope.names.all (fun y=>y.2 != .free||(sc.names.lookup y.1 == some .cell||sc.names.lookup y.1 == some .free))&&N.all (fun y=>scope.names.lookup y != some .local)
theorem compS {X:Cx}{ts N:List Str}{sc scope:Scope}(h1:X.env.scope=sc)(h2:X.N=N)(h:compOk N sc scope=true):CompScope X ts scope:=by
 unfold compOk at h
 simp only[Bool.and_eq_true,List.all_eq_true] at h
 obtain⟨⟨⟨⟨a,b⟩,c⟩,d⟩,e⟩:=h
 refine⟨by simpa using a,fun y hy=>by simpa using b y hy,fun y hy hl=>?_,fun y hy hf=>?_,fun y hy=>?_⟩
 ·have:=c y hy
  rw[hl] at this
  simpa using this
 ·have:=d y hy
  rw[hf] at this
  have:(sc.names.lookup y.1 == some .cell||sc.names.lookup y.1 == some .free)=true:=by simpa using this
  rw[← h1] at this
  show X.env.scope.names.lookup y.1=some .cell∨X.env.scope.names.lookup y.1=some .free
  simpa using this
 ·rw[h2] at hy
  simpa using e y hy
theorem bears_ints {K:PySem.W.Frag}{H:Hp}:∀ ns:List Int,BearsL K H (ns.map V.int) (ns.map Th.int)
 |[]=>.nil
 |n::ns=>.cons (.int n) (bears_ints ns)
theorem law_sp {K:PySem.W.Frag}{H:Hp}{a:Addr}{ns:List Int}{φ:List Th→Option Th}{E:XK}(hS:SqL K H a (ns.map V.int))(h:φ [.lst (ns.map Th.int)]=some (.bl true)):spF K φ [.ref a] H (fun v _=>v=.bl true) E:=by
 refine⟨fun _=>False,_,_,fun _ z=>z.elim,.cons (.lst ?_ (bears_ints ns)) .nil,h,fun v H' _ b=>?_⟩
 ·rw[less_none]; exact hS
 ·cases b; rfl
section
variable {X:Cx}{a b c e:Expr}{fa fb fc f:FD}{pos:Pos}{k:Nat}
theorem pdg_two {i j:Nat}{x y:Str}{px py:Pos}{k:Nat}(hc:X.calm=true)(hN:X.N.Nodup)(hi:X.N[i]?=some x)(hj:X.N[j]?=some y)(hx:Loc X.env.scope x)(hy:Loc X.env.scope y)
  (hf:X.fn x=true∨X.env.scope.names.lookup x=some .local:=by first | exact .inl rfl | exact .inr rfl | assumption) (hf2:X.fn y=true∨X.env.scope.names.lookup y=some .local:=by first | exact .inl rfl | exact .inr rfl | assumption):PDG X (.Tuple [.Name x px,.Name y py] k pos) (gPair i j) :=
 pdg_pair hc hN hi hj hx hy (pg_tup hc (pgs_cons (pg_name hN hi hx hf) (pgs_cons (pg_name hN hj hy hf2) pgs_nil)))
end
mutual
inductive Lit:Expr→Th→Prop where
 |int {i:Int} {j p}:Lit (.Constant (.int i) j p) (.int i)
 |neg {i:Int} {j p p2}:Lit (.UnaryOp .USub (.Constant (.int i) j p) p2) (.int (-i))
 |bl {b:Bool} {j p}:Lit (.Constant (.bool b) j p) (.bl b)
 |non {j p}:Lit (.Constant .none j p) .non
 |str {x:Str} {j p}:Lit (.Constant (.str x) j p) (.str x)
 |tup {es:List Expr} {ts:List Th} {k p} (h:LitL es ts) (z:ts.length≤1000000):Lit (.Tuple es k p) (.tup ts)
 |lst {es:List Expr} {ts:List Th} {p} (h:LitL es ts) (z:ts.length≤1000000):Lit (.List es p) (.lst ts)
inductive LitL:List Expr→List Th→Prop where
 |nil:LitL [] []
 |cons {e:Expr} {t:Th} {es:List Expr} {ts:List Th} (h:Lit e t) (r:LitL es ts):LitL (e::es) (t::ts)
end
section
variable {X:Cx}{e:Expr}{f f':FD}{pos:Pos}
theorem PD.congr (h:PD X e f)(i:∀ d T,f' d=some T→f d=some T):PD X e f':=PE.imp h fun σ H Q ⟨O,d,T,R,e,q⟩=>⟨O,d,T,R,i d T e,q⟩
theorem PF.congr {g g':FL}(h:PF X e g)(i:∀ d T,g' d=some T→g d=some T):PF X e g':=PE.imp h fun σ H Q ⟨O,d,T,R,e,q⟩=>⟨O,d,T,R,i d T e,q⟩
def fCL (ts:List Th):FL:=fun _=>some ts
theorem star_lit {T:Th}(h:Lit e T)(es:List Expr)(env:Env):starEach (e::es) env=(false,eval e env)::starEach es env:=by
 cases h <;> rfl
mutual
theorem pd_lit:∀ {e:Expr} {T:Th},Lit e T→PD X e (fC T)
 |_,_,.int=>pd_int
 |_,_,.neg=>PD.congr (pd_neg pd_int) fun d T e=>by cases e; rfl
 |_,_,.bl=>pd_bl
 |_,_,.non=>pd_non
 |_,_,.str=>pd_str
 |_,_,.tup (ts:=ts) h z=>PD.congr (pd_tup (pda_lit h)) fun d T e=>by
   cases e
   unfold fTup fCL fitL
   show ((if ts.length≤1000000 then some ts else none).map Th.tup)=_
   rw[if_pos z]; rfl
 |_,_,.lst (ts:=ts) h z=>PD.congr (PF.pd (pf_list (pda_lit h))) fun d T e=>by
   cases e
   unfold fLst fList fCL fitL
   show ((if ts.length≤1000000 then some ts else none).map Th.lst)=_
   rw[if_pos z]; rfl
theorem pda_lit:∀ {es:List Expr} {ts:List Th},LitL es ts→PDA X es (fCL ts)
 |_,_,.nil=>PA.imp pda_nil fun σ H Q ⟨O,d,T,R,e,q⟩=>⟨O,d,T,R,e,q⟩
 |_,_,.cons h r=>PA.imp (pda_cons (pd_lit h) (pda_lit r) (star_lit h _ _)) fun σ H Q ⟨O,d,T,R,e,q⟩=>⟨O,d,T,R,e,q⟩
end
theorem pf_lit {es:List Expr}{ts:List Th}{p:Pos}(h:LitL es ts)(z:ts.length≤1000000):PF X (.List es p) (fCL ts):=PF.congr (pf_list (pda_lit h)) fun d T e=>by
 cases e
 unfold fList fCL fitL
 show (if ts.length≤1000000 then some ts else none)=_
 rw[if_pos z]
end
section
variable {X:Cx}{a b c e:Expr}{fa fb fc f:FD}{F G:FS}{pos:Pos}{k:Nat}
def whileN (c:FB)(F:FS):Nat→FS
 |0,_=>none
 |n+1,d=>(c d).bind fun b=>if b=true then (F d).bind fun o=>match o with | .nx d'=>whileN c F n d' | .ct d'=>whileN c F n d' | .bk d'=>some (.nx d') | .rt T=>some (.rt T) | .xc c=>some (.xc c) else some (.nx d)
theorem whileN_succ {c:FB}{F:FS}:∀ (n:Nat) {d:Sd} {o:Out},whileN c F n d=some o→whileN c F (n+1) d=some o
 |0,d,o,h=>by cases h
 |n+1,d,o,h=>by
  unfold whileN at h ⊢
  cases hc:c d with
  |none=>rw[hc] at h; cases h
  |some b =>
   rw[hc] at h
   change (if b=true then _ else _)=_ at h
   change (if b=true then _ else _)=_
   cases b with
   |false=>exact h
   |true =>
    rw[if_pos rfl] at h ⊢
    cases hF:F d with
    |none=>rw[hF] at h; cases h
    |some o1 =>
     rw[hF] at h
     cases o1 with
     |nx d'=>exact whileN_succ n h
     |ct d'=>exact whileN_succ n h
     |bk d'=>exact h
     |rt T=>exact h
     |xc c=>exact h
theorem whileN_le {c:FB}{F:FS}{n m:Nat}(hl:n≤m){d:Sd}{o:Out}(h:whileN c F n d=some o):whileN c F m d=some o:=by
 induction hl with
 |refl=>exact h
 |step _ ih=>exact whileN_succ _ ih
open Classical in
noncomputable def fWhile (c:FB)(F:FS):FS:=fun d=>if h:∃ n o,whileN c F n d=some o then some h.choose_spec.choose else none
theorem fWhile_of {c:FB}{F:FS}{n:Nat}{d:Sd}{o:Out}(h:whileN c F n d=some o):fWhile c F d=some o:=by
 have hx:∃ n o,whileN c F n d=some o:=⟨n,o,h⟩
 unfold fWhile
 rw[dif_pos hx]
 have h2:=hx.choose_spec.choose_spec
 have h3:=whileN_le (Nat.le_max_left n hx.choose) h
 have h4:=whileN_le (Nat.le_max_right n hx.choose) h2
 rw[h4] at h3
 exact h3
theorem fWhile_some {c:FB}{F:FS}{d:Sd}{o:Out}(h:fWhile c F d=some o):∃ n,whileN c F n d=some o:=by
 unfold fWhile at h
 split at h
 ·rename_i hx
  injection h with h
  exact⟨_,h ▸ hx.choose_spec.choose_spec⟩
 ·cases h
theorem pds_while {body:List Stmt}{fc:FB}(hp:PassesOwn (model X.prog X.w) X.A X.env X.xe)(hc:PDT X c fc)(hb:PDSs X body F):PDS X (.While c body [] pos) (fWhile fc F):=PS.imp (ps_while hp hc hb) fun D σ H ⟨O,d,o,R,e,q⟩=>by
 obtain⟨n0,e0⟩:=fWhile_some e
 refine⟨fun m σ' H'=>∃ O' d',O'.far=O.far∧Rep X.K H' O' σ' d'∧Same (low H O) (low H' O')∧whileN fc F m d'=some o,⟨n0,O,d,rfl,R,Same.refl _,e0⟩,?_⟩
 rintro m σ' H' ⟨O',d',hf',R',s',e'⟩
 cases m with
 |zero=>cases e'
 |succ m =>
  unfold whileN at e'
  cases hcd:fc d' with
  |none=>rw[hcd] at e'; cases e'
  |some b =>
   rw[hcd] at e'
   change (if b=true then _ else _)=_ at e'
   refine⟨O',d',b,R',hcd,fun H1 s1=>?_⟩
   have s2:Same (low H O) (low H1 O'):=s'.trans (low_mono s1)
   cases b with
   |false =>
    rw[if_neg Bool.false_ne_true] at e'
    show (if false=true then _ else _)
    rw[if_neg Bool.false_ne_true]
    cases e'
    exact q σ' H1 O' hf' s2 (R'.mono s1)
   |true =>
    rw[if_pos rfl] at e'
    show (if true=true then _ else _)
    rw[if_pos rfl]
    refine⟨fun σ2 H2=>∃ O2 d2,O2.far=O.far∧Rep X.K H2 O2 σ2 d2∧Same (low H O) (low H2 O2)∧whileN fc F m d2=some o,fun σ2 H2 h=>⟨m,Nat.lt_succ_self m,h⟩,?_⟩
    cases hF:F d' with
    |none=>rw[hF] at e'; cases e'
    |some o1 =>
     rw[hF] at e'
     refine⟨O',d',o1,R'.mono s1,hF,?_⟩
     cases o1 with
     |nx d2=>exact fun σ2 H2 O2 hf2 s3 R2=>⟨O2,d2,hf2.trans hf',R2,s2.trans s3,e'⟩
     |ct d2=>exact fun σ2 H2 O2 hf2 s3 R2=>⟨O2,d2,hf2.trans hf',R2,s2.trans s3,e'⟩
     |bk d2=>cases e'; exact fun σ2 H2 O2 hf2 s3 R2=>q σ2 H2 O2 (hf2.trans hf') (s2.trans s3) R2
     |xc c=>cases e'; exact fun H2 s3=>q H2 (s2.trans s3)
     |rt T2=>cases e'; rw[hf']; exact fun v H2 s3 b2=>q v H2 (s2.trans s3) b2
def fAsg (f:FD)(g:FG):FS:=fun d=>(f d).bind fun T=>(g T d).map Out.nx
theorem pds_asg {tg:Expr}{g:FG}(he:PD X e f)(hg:PDG X tg g)(hs:swapsWithSole [tg] e pos.line X.env=pure false:=by rfl)(hw:swappedStores [tg] e X.env=pure none:=by rfl)
  (h1:(assignEach [tg] X.env).map (·.2)=[assign tg X.env]:=by rfl):PDS X (.Assign [tg] e pos) (fAsg f g):=PS.imp (ps_asg he hg hs hw h1) fun D σ H ⟨O,d,o,R,e,q⟩=>by
 unfold fAsg at e
 cases hf:f d with
 |none=>rw[hf] at e; cases e
 |some T =>
  rw[hf] at e
  change (g T d).map Out.nx=_ at e
  cases hg:g T d with
  |none=>rw[hg] at e; cases e
  |some d' =>
   rw[hg] at e
   cases e
   exact⟨O,d,T,R,hf,fun v H' s b=>⟨O,d,T,d',R.mono s,b,hg,fun σ' R'=>q σ' H' O rfl (low_mono s) R'⟩⟩
theorem pf_comp2 {x y:Str}{px py pt pos:Pos}{k1:Nat}{scope:Scope}{elt iter:Expr}{ifs:List Expr}{fi:FL}{ft:FB}{fe:FD}(hc:X.calm=true)(S:CompScope X [x,y] scope)(hN:([x,y]++X.N).Nodup)(hx:scope.names.lookup x=some .local)(hy:scope.names.lookup y=some .local)(hi:PDI X (.Tuple [.Name x px,.Name y py] k1 pt) iter fi)
  (ht:∀ cl s₂ H1 C fp,PDIf (cxC X [x,y] scope cl s₂ H1 C fp) ifs ft) (he:∀ cl s₂ H1 C fp,PD (cxC X [x,y] scope cl s₂ H1 C fp) elt fe) (hs:∀ x,foldedSetIterable iter X.env x=pure x:=by intro _; rfl) :
  PF X (.ListComp elt [⟨.Tuple [.Name x px,.Name y py] k1 pt,iter,ifs,0⟩] scope pos) (fComp g2 fi ft fe) :=
 PE.imp (pe_comp (tt:=liftT X.K ft) (te:=liftD X.K fe) hc S (PI.imp hi it_c) (fun cl s₂ H1 C fp=>pg_tup (X:=cxC X [x,y] scope cl s₂ H1 C fp) hc (pgs_cons (pg_name (i:=0) hN rfl (Or.inl (lookup_relabel_local hx)) (.inr (lookup_relabel_local hx))) (pgs_cons (pg_name (i:=1) hN rfl (Or.inl (lookup_relabel_local hy)) (.inr (lookup_relabel_local hy))) pgs_nil))) ht he hs) (comp_lift compG2)
theorem pds_comp2T {x y z:Str}{px py pt pz pos spos:Pos}{k1:Nat}{scope:Scope}{elt iter:Expr}{ifs:List Expr}{fi:FL}{ft:FB}{fe:FD}{i:Nat}(hN0:X.N.Nodup)(hi':X.N[i]?=some z)(hz:Loc X.env.scope z)(hc:X.calm=true)(S:CompScope X [x,y] scope)(hN:([x,y]++X.N).Nodup)(hx:scope.names.lookup x=some .local)(hy:scope.names.lookup y=some .local)(hi:PDI X (.Tuple [.Name x px,.Name y py] k1 pt) iter fi)
  (ht:∀ cl s₂ H1 C fp,PDIf (cxC X [x,y] scope cl s₂ H1 C fp) ifs ft) (he:∀ cl s₂ H1 C fp,PD (cxC X [x,y] scope cl s₂ H1 C fp) elt fe)
  (hsw:swapsWith (.ListComp elt [⟨.Tuple [.Name x px,.Name y py] k1 pt,iter,ifs,0⟩] scope pos) (some (.Name z pz)) spos.line X.env=pure true:=by rfl)
  (hf':X.fn z=true∨X.env.scope.names.lookup z=some .local:=by first | exact .inl rfl | exact .inr rfl | assumption)
  (hs:∀ x,foldedSetIterable iter X.env x=pure x:=by intro _; rfl) :
  PDS X (.Assign [.Name z pz] (.ListComp elt [⟨.Tuple [.Name x px,.Name y py] k1 pt,iter,ifs,0⟩] scope pos) spos) (fSet i (fLst (fComp g2 fi ft fe))) :=
 PS.imp (ps_comp (tt:=liftT X.K ft) (te:=liftD X.K fe) hN0 hi' hz hc S (PI.imp hi it_c) (fun cl s₂ H1 C fp=>pg_tup (X:=cxC X [x,y] scope cl s₂ H1 C fp) hc (pgs_cons (pg_name (i:=0) hN rfl (Or.inl (lookup_relabel_local hx)) (.inr (lookup_relabel_local hx))) (pgs_cons (pg_name (i:=1) hN rfl (Or.inl (lookup_relabel_local hy)) (.inr (lookup_relabel_local hy))) pgs_nil))) ht he hsw hf' hs) fun D σ H h=>by
  obtain⟨O,d,o,R,e,q⟩:=h
  unfold fSet fLst at e
  cases hf:fComp g2 fi ft fe d with
  |none=>rw[hf] at e; cases e
  |some ts =>
   rw[hf] at e
   cases e
   refine comp_lift compG2 σ H _ ⟨O,d,ts,R,hf,fun v H' s b=>?_⟩
   obtain⟨a,xs,rfl,e2,e3,b⟩:=b
   exact q _ H' O rfl (low_mono s) ((R.mono s).set i (.lst (SqL.of (less_of e3 (R.notOwn e2))) (b.mono less_cons_sub)))
end
structure Fly (P:Program)(w:World)(l:List Env)(H:Hp)(s:Shared)(C:Addr)(H1:Hp)(B:Heap)(ea t:Addr)(s':Shared):Prop where
 os:s'.os=s.os
 bare:AllBare s'.gens
 un:Un (frs l) [] H H1 s.heap s'.heap
 hok:HOk P w H1 s'.heap
 fly:Heap.FlyingW B l ea (.ref C) (.ref t) s'.heap
 cov:∀ b o,s.heap.get? b=some o→H b=none→b∉frs l→B.get? b=some o
 all:∀ b o,s.heap.get? b=some o→b∉frs l→∃ o',B.get? b=some o'
 trk:∀ b o,H1 b=some o→∃ o',B.get? b=some o'
section
variable {P:Program}{w:World}{l:List Env}{H H1:Hp}{s s':Shared}{C ea t:Addr}{B:Heap}
theorem Fly.free (f:Fly P w l H s C H1 B ea t s'):H1 ea=none:=by
 cases q:H1 ea with
 |none=>rfl
 |some o =>
  obtain⟨o',e⟩:=f.trk ea o q
  rw[f.fly.2.1] at e; cases e
end
section
variable {X:Cx}{K:PySem.W.Frag}{o a b c e:Expr}{fo fa fb fc f:FD}{pos:Pos}{k:Nat}
def strsOf:List Th→Option (List Str)
 |[]=>some []
 |.str y::r=>(strsOf r).map (y::·)
 |_=>none
theorem strs_rel {H:Hp}:∀ {ts:List Th} {ys:List Str} {vs:List V} {us:List Value},strsOf ts=some ys→BearsL K H vs ts→Vals vs us→StrsAre us ys
 |[],_,_,_,e,b,r=>by cases e; cases b; cases r; exact .nil
 |t::ts,_,_,_,e,b,r=>by
  cases b with
  |cons b1 b2=>cases r with
   |cons r1 r2 =>
    cases b1 with
    |str y =>
     unfold strsOf at e
     cases hb:strsOf ts with
     |none=>rw[hb] at e; cases e
     |some bs =>
      rw[hb] at e
      cases e
      obtain⟨t,rfl⟩:=r1
      exact .cons y t (strs_rel hb b2 r2)
    |_=>cases e
end
section
variable {X:Cx}{K:PySem.W.Frag}{o e:Expr}{fo fa:FD}
theorem bears_strs {H:Hp}:∀ l:List Str,BearsL K H (l.map V.str) (l.map Th.str)
 |[]=>.nil
 |y::l=>.cons (.str y) (bears_strs l)
end
def leS (a b:Str):Prop:=a.cps.toList≤b.cps.toList
theorem leS_trans {a b c:Str}(h1:leS a b)(h2:leS b c):leS a c:=List.le_trans h1 h2
theorem leS_anti {a b:Str}(h1:leS a b)(h2:leS b a):a=b:=by
 have h:a.cps.toList=b.cps.toList:=List.le_antisymm h1 h2
 cases a; cases b
 simp only[Str.mk.injEq]
 exact Array.toList_inj.mp h
theorem sorted_unique:∀ {a b:List Str},a.Perm b→a.Pairwise leS→b.Pairwise leS→a=b
 |[],b,p,_,_=>by rw[List.nil_perm.mp p]
 |x::a,[],p,_,_=>absurd p.length_eq (by simp)
 |x::a,y::b,p,ha,hb=>by
  have hxy:x=y:=by
   have h1:x∈y::b:=p.mem_iff.mp List.mem_cons_self
   have h2:y∈x::a:=p.mem_iff.mpr List.mem_cons_self
   rcases List.mem_cons.mp h1 with h1 | h1
   ·exact h1
   ·rcases List.mem_cons.mp h2 with h2 | h2
    ·exact h2.symm
    ·exact leS_anti ((List.pairwise_cons.mp ha).1 y h2) ((List.pairwise_cons.mp hb).1 x h1)
  subst hxy
  rw[sorted_unique p.cons_inv (List.pairwise_cons.mp ha).2 (List.pairwise_cons.mp hb).2]
open Classical in
noncomputable def sortS (ss:List Str):List Str:=if h:∃ r:List Str,r.Perm ss∧r.Pairwise leS then h.choose else []
theorem sortS_of {ss r:List Str}(hp:r.Perm ss)(hs:r.Pairwise leS):sortS ss=r:=by
 have h:∃ r:List Str,r.Perm ss∧r.Pairwise leS:=⟨r,hp,hs⟩
 unfold sortS
 rw[dif_pos h]
 exact sorted_unique (h.choose_spec.1.trans hp.symm) h.choose_spec.2 hs
section
variable {X:Cx}{K:PySem.W.Frag}{e:Expr}{es:List Expr}{fs:FL}{p pos:Pos}
theorem strs_vals:∀ {us:List Value} {ys:List Str},StrsAre us ys→Vals (ys.map V.str) us
 |_,_,.nil=>.nil
 |_,_,.cons y t h=>.cons ⟨t,rfl⟩ (strs_vals h)
end
end L2
namespace Sg
open PySem PyProof.Rows
section pure
variable {O:KeyOrd}{key:Keyed→O.α}
def Up (key:Keyed→O.α)(l:List Keyed):Prop:=l.Pairwise (fun x y=>O.kle (key x) (key y))
def Below (key:Keyed→O.α)(l m:List Keyed):Prop:=∀ x∈l,∀ y∈m,O.kle (key x) (key y)
theorem Up.app {l m:List Keyed}(h1:Up key l)(h2:Up key m)(h3:Below key l m):Up key (l++m) :=
 List.pairwise_append.mpr ⟨h1,h2,h3⟩
theorem Up.sub {l m:List Keyed}(h:Up key m)(hs:l.Sublist m):Up key l:=List.Pairwise.sublist hs h
theorem Below.sub {l m l' m':List Keyed}(h:Below key l m)(h1:∀ x∈l',x∈l)(h2:∀ x∈m',x∈m):Below key l' m' :=
 fun x hx y hy=>h x (h1 x hx) y (h2 y hy)
theorem Up.halves {l:List Keyed}(h:Up key l)(k:Nat):Below key (l.take k) (l.drop k):=by
 have h':Up key (l.take k++l.drop k):=by rw[List.take_append_drop]; exact h
 exact (List.pairwise_append.mp h').2.2
theorem below_nil {l:List Keyed}:Below key l []:=fun _ _ _ h=>absurd h (by simp)
theorem nil_below {l:List Keyed}:Below key [] l:=fun _ h=>absurd h (by simp)
theorem Below.app {l m n:List Keyed}(h1:Below key l n)(h2:Below key m n):Below key (l++m) n :=
 fun x hx y hy=>(List.mem_append.mp hx).elim (fun q=>h1 x q y hy) fun q=>h2 x q y hy
theorem Below.app' {l m n:List Keyed}(h1:Below key l m)(h2:Below key l n):Below key l (m++n) :=
 fun x hx y hy=>(List.mem_append.mp hy).elim (fun q=>h1 x hx y q) fun q=>h2 x hx y q
structure Lo (key:Keyed→O.α)(a b out:List Keyed)(ia ib:Nat):Prop where
 perm:out.Perm (a.take ia++b.take ib)
 up:Up key out
 ba:Below key out (a.drop ia)
 bb:Below key out (b.drop ib)
variable {a b out:List Keyed}{ia ib k:Nat}
theorem Lo.chunkA (h:Lo key a b out ia ib)(ua:Up key a)(hb:Below key ((a.drop ia).take k) (b.drop ib)) :
  Lo key a b (out++(a.drop ia).take k) (ia+k) ib:=by
 refine⟨?_,?_,?_,?_⟩
 ·rw[List.take_add]
  refine (h.perm.append_right _).trans ?_
  rw[List.append_assoc,List.append_assoc]
  exact List.Perm.append_left _ List.perm_append_comm
 ·exact h.up.app (ua.sub ((List.take_sublist ..).trans (List.drop_sublist ..))) (h.ba.sub (fun _ q=>q) fun _ q=>List.mem_of_mem_take q)
 ·rw[← List.drop_drop]
  exact (h.ba.sub (fun _ q=>q) fun _ q=>List.mem_of_mem_drop q).app ((ua.sub (List.drop_sublist ..)).halves k)
 ·exact h.bb.app hb
theorem Lo.chunkB (h:Lo key a b out ia ib)(ub:Up key b)(ha:Below key ((b.drop ib).take k) (a.drop ia)) :
  Lo key a b (out++(b.drop ib).take k) ia (ib+k):=by
 refine⟨?_,?_,?_,?_⟩
 ·rw[List.take_add,← List.append_assoc]
  exact h.perm.append_right _
 ·exact h.up.app (ub.sub ((List.take_sublist ..).trans (List.drop_sublist ..))) (h.bb.sub (fun _ q=>q) fun _ q=>List.mem_of_mem_take q)
 ·exact h.ba.app ha
 ·rw[← List.drop_drop]
  exact (h.bb.sub (fun _ q=>q) fun _ q=>List.mem_of_mem_drop q).app ((ub.sub (List.drop_sublist ..)).halves k)
theorem Lo.finA (h:Lo key a b out ia ib)(ua:Up key a)(ub:Up key b)(hx:Below key (a.drop ia) (b.drop ib)) :
  (out++a.drop ia++b.drop ib).Perm (a++b)∧Up key (out++a.drop ia++b.drop ib):=by
 refine⟨?_,((h.up.app (ua.sub (List.drop_sublist ..)) h.ba).app (ub.sub (List.drop_sublist ..)) (h.bb.app hx))⟩
 refine ((h.perm.append_right _).append_right _).trans ?_
 have e:(a++b)=(a.take ia++a.drop ia)++(b.take ib++b.drop ib):=by rw[List.take_append_drop,List.take_append_drop]
 rw[e]
 simp only[List.append_assoc]
 refine List.Perm.append_left _ ?_
 rw[← List.append_assoc,← List.append_assoc]
 exact List.Perm.append_right _ List.perm_append_comm
theorem Lo.finB (h:Lo key a b out ia ib)(ua:Up key a)(ub:Up key b)(hx:Below key (b.drop ib) (a.drop ia)) :
  (out++b.drop ib++a.drop ia).Perm (a++b)∧Up key (out++b.drop ib++a.drop ia):=by
 refine⟨?_,((h.up.app (ub.sub (List.drop_sublist ..)) h.bb).app (ua.sub (List.drop_sublist ..)) (h.ba.app hx))⟩
 refine ((h.perm.append_right _).append_right _).trans ?_
 have e:(a++b)=(a.take ia++a.drop ia)++(b.take ib++b.drop ib):=by rw[List.take_append_drop,List.take_append_drop]
 rw[e]
 simp only[List.append_assoc]
 refine List.Perm.append_left _ ?_
 have:(b.take ib++(b.drop ib++a.drop ia)).Perm (a.drop ia++(b.take ib++b.drop ib)):=by
  rw[← List.append_assoc]
  exact List.perm_append_comm
 exact this
structure Hi (key:Keyed→O.α)(a b out:List Keyed)(na nb:Nat):Prop where
 perm:out.Perm (a.drop na++b.drop nb)
 up:Up key out.reverse
 ba:Below key (a.take na) out
 bb:Below key (b.take nb) out
variable {na nb t:Nat}
theorem split_take {l:List Keyed}{m n:Nat}(h:m≤n):l.take n=l.take m++(l.take n).drop m:=by
 have e:=List.take_append_drop m (l.take n)
 rw[List.take_take,Nat.min_eq_left h] at e
 exact e.symm
theorem split_drop {l:List Keyed}{m n:Nat}(h:m≤n):l.drop m=(l.take n).drop m++l.drop n:=by
 have e:l=l.take n++l.drop n:=(List.take_append_drop n l).symm
 by_cases hn:n≤l.length
 ·conv=>lhs; rw[e]
  rw[List.drop_append_of_le_length (by rw[List.length_take]; omega)]
 ·rw[List.take_of_length_le (by omega),List.drop_of_length_le (i:=n) (by omega),List.append_nil]
theorem Hi.chunkA (h:Hi key a b out na nb)(ua:Up key a)(ht:t≤na)(hb:Below key (b.take nb) ((a.take na).drop t)) :
  Hi key a b (out++((a.take na).drop t).reverse) t nb:=by
 refine⟨?_,?_,?_,?_⟩
 ·rw[split_drop (l:=a) ht,List.append_assoc]
  refine List.perm_append_comm.trans ?_
  exact ((List.reverse_perm _).append_right _).trans (h.perm.append_left _)
 ·rw[List.reverse_append,List.reverse_reverse]
  exact (ua.sub ((List.drop_sublist ..).trans (List.take_sublist ..))).app h.up (h.ba.sub (fun _ q=>List.mem_of_mem_drop q) fun _ q=>List.mem_reverse.mp q)
 ·refine (h.ba.sub (fun x q=>?_) fun _ q=>q).app' (Below.sub ?_ (fun _ q=>q) fun _ q=>List.mem_reverse.mp q)
  ·rw[split_take ht]; exact List.mem_append_left _ q
  ·have u2:Up key (a.take t++(a.take na).drop t):=by rw[← split_take ht]; exact ua.sub (List.take_sublist ..)
   exact (List.pairwise_append.mp u2).2.2
 ·exact h.bb.app' (hb.sub (fun _ q=>q) fun _ q=>List.mem_reverse.mp q)
theorem Hi.chunkB (h:Hi key a b out na nb)(ub:Up key b)(ht:t≤nb)(ha:Below key (a.take na) ((b.take nb).drop t)) :
  Hi key a b (out++((b.take nb).drop t).reverse) na t:=by
 refine⟨?_,?_,?_,?_⟩
 ·rw[split_drop (l:=b) ht]
  refine (h.perm.append (List.reverse_perm _)).trans ?_
  rw[List.append_assoc]
  exact List.Perm.append_left _ List.perm_append_comm
 ·rw[List.reverse_append,List.reverse_reverse]
  exact (ub.sub ((List.drop_sublist ..).trans (List.take_sublist ..))).app h.up (h.bb.sub (fun _ q=>List.mem_of_mem_drop q) fun _ q=>List.mem_reverse.mp q)
 ·exact h.ba.app' (ha.sub (fun _ q=>q) fun _ q=>List.mem_reverse.mp q)
 ·refine (h.bb.sub (fun x q=>?_) fun _ q=>q).app' (Below.sub ?_ (fun _ q=>q) fun _ q=>List.mem_reverse.mp q)
  ·rw[split_take ht]; exact List.mem_append_left _ q
  ·have u2:Up key (b.take t++(b.take nb).drop t):=by rw[← split_take ht]; exact ub.sub (List.take_sublist ..)
   exact (List.pairwise_append.mp u2).2.2
theorem Hi.finA (h:Hi key a b out na nb)(ua:Up key a)(ub:Up key b)(hx:Below key (a.take na) (b.take nb)) :
  (a.take na++b.take nb++out.reverse).Perm (a++b)∧Up key (a.take na++b.take nb++out.reverse):=by
 refine⟨?_,(((ua.sub (List.take_sublist ..)).app (ub.sub (List.take_sublist ..)) hx).app h.up ((h.ba.app h.bb).sub (fun _ q=>q) fun _ q=>List.mem_reverse.mp q))⟩
 refine (List.Perm.append_left _ ((List.reverse_perm _).trans h.perm)).trans ?_
 have e:(a++b)=(a.take na++a.drop na)++(b.take nb++b.drop nb):=by rw[List.take_append_drop,List.take_append_drop]
 rw[e]
 simp only[List.append_assoc]
 refine List.Perm.append_left _ ?_
 rw[← List.append_assoc,← List.append_assoc]
 exact List.Perm.append_right _ List.perm_append_comm
theorem Hi.finB (h:Hi key a b out na nb)(ua:Up key a)(ub:Up key b)(hx:Below key (b.take nb) (a.take na)) :
  (b.take nb++a.take na++out.reverse).Perm (a++b)∧Up key (b.take nb++a.take na++out.reverse):=by
 refine⟨?_,(((ub.sub (List.take_sublist ..)).app (ua.sub (List.take_sublist ..)) hx).app h.up ((h.bb.app h.ba).sub (fun _ q=>q) fun _ q=>List.mem_reverse.mp q))⟩
 refine (List.Perm.append_left _ ((List.reverse_perm _).trans h.perm)).trans ?_
 have e:(a++b)=(a.take na++a.drop na)++(b.take nb++b.drop nb):=by rw[List.take_append_drop,List.take_append_drop]
 rw[e]
 refine (List.Perm.append_right _ List.perm_append_comm).trans ?_
 simp only[List.append_assoc]
 refine List.Perm.append_left _ ?_
 rw[← List.append_assoc,← List.append_assoc]
 exact List.Perm.append_right _ List.perm_append_comm
end pure
end Sg
namespace Sg
open PySem PyProof.Rows
def nth (xs:Array Keyed)(i:Nat):Keyed:=(xs[i]?).getD (Value.none,Value.none)
theorem nth_pos {xs:Array Keyed}{i:Nat}(h:i<xs.size):xs[i]?=some (nth xs i):=by
 unfold nth; rw[getElem?_pos xs i h]; rfl
theorem nth_list {xs:Array Keyed}{i:Nat}(h:i<xs.size):xs.toList[i]?=some (nth xs i):=by
 rw[Array.getElem?_toList]; exact nth_pos h
theorem nth_mem {xs:Array Keyed}{i:Nat}(h:i<xs.size):nth xs i∈xs.toList:=List.mem_of_getElem? (nth_list h)
def gallop':Bool→Keyed→Array Keyed→Nat→Nat→Nat→StateT SortSt Sem (Option Nat):=sortPriv% PySem.Builtin.gallop
def mergeLo':Array Keyed→Array Keyed→StateT SortSt Sem (Array Keyed):=sortPriv% PySem.Builtin.mergeLo
def mergeHi':Array Keyed→Array Keyed→StateT SortSt Sem (Array Keyed):=sortPriv% PySem.Builtin.mergeHi
def setMinGallop':Nat→StateT SortSt Sem Unit:=sortPriv% PySem.Builtin.setMinGallop
def Asks (prog:Program)(w:World)(s:Shared)(O:KeyOrd)(key:Keyed→O.α)(G:Keyed→Prop)(kd:SortKind):Prop :=
 ∀ (A:Around) (E:Value→Shared→Prop) (x y:Keyed) (Q:Bool→Shared→Prop),G x→G y→Q (O.blt (key x) (key y)) s→wpAny (model prog w) A (keyLt' kd x.1 y.1) Q E s
section
variable {prog:Program}{w:World}{A:Around}{E:Value→Shared→Prop}{s:Shared}{O:KeyOrd}{key:Keyed→O.α}{G:Keyed→Prop}{kd:SortKind}{st:SortSt}
theorem wpS_lt2 {x y:Keyed}{Q:Option Bool→SortSt→Prop}(hc:Asks prog w s O key G kd)(hk:kindOf st=kd)(gx:G x)(gy:G y)
  (h:Q (some (O.blt (key x) (key y))) st):wpS (model prog w) A E s (lt' x y) Q st:=by
 rw[lt'_eq]
 refine wpS_bind (wpS_get ?_)
 rw[hk]
 refine wpS_bind (wpS_lift (wpAny_attempt (hc _ _ x y _ gx gy ⟨rfl,?_⟩)))
 exact wpS_pure h
theorem wpS_elem2 {xs:Array Keyed}{i:Nat}{Q:Keyed→SortSt→Prop}(hi:i<xs.size)(h:Q (nth xs i) st):wpS (model prog w) A E s (elem' xs i) Q st:=by
 rw[elem'_eq,nth_pos hi]
 exact wpS_pure h
theorem wpS_ltAt2 {i j:Nat}{Q:Option Bool→SortSt→Prop}(hc:Asks prog w s O key G kd)(hk:kindOf st=kd)(hi:i<(arrOf st).size)(hj:j<(arrOf st).size)
  (gx:G (nth (arrOf st) i)) (gy:G (nth (arrOf st) j)) (h:Q (some (O.blt (key (nth (arrOf st) i)) (key (nth (arrOf st) j)))) st):wpS (model prog w) A E s (ltAt' i j) Q st:=by
 rw[ltAt'_eq]
 refine wpS_bind (wpS_get ?_)
 exact wpS_bind (wpS_elem2 hi (wpS_bind (wpS_elem2 hj (wpS_lt2 hc hk gx gy h))))
def bey (key:Keyed→O.α)(l:Bool)(k:Keyed)(arr:Array Keyed)(b i:Nat):Bool :=
 if l=true then O.blt (key (nth arr (b+i))) (key k) else !O.blt (key k) (key (nth arr (b+i)))
theorem wpS_gallop {l:Bool}{k:Keyed}{arr:Array Keyed}{b n h:Nat}{Q:Option Nat→SortSt→Prop}(hc:Asks prog w s O key G kd)(hk:kindOf st=kd)
  (hG:∀ i,i<n→G (nth arr (b+i))) (gk:G k) (hz:b+n≤arr.size) (hh:h<n)
  (mono:∀ i j,i≤j→j<n→bey key l k arr b j=true→bey key l k arr b i=true)
  (hQ:∀ r,r≤n→(∀ i,i<r→bey key l k arr b i=true)→(∀ i,r≤i→i<n→bey key l k arr b i=false)→Q (some r) st) :
  wpS (model prog w) A E s (gallop' l k arr b n h) Q st:=by
 have ask:∀ i,i<n→∀ {Q':Option Bool→SortSt→Prop},Q' (some (bey key l k arr b i)) st →
   wpS (model prog w) A E s (do
    let it ← elem' arr (b+i)
    if l=true then lt' it k else do
     let r ← lt' k it
     pure (Option.map (fun z=>!z) r)) Q' st:=by
  intro i hi Q' hq
  refine wpS_bind (wpS_elem2 (by lia) ?_)
  unfold bey at hq
  cases l with
  |true =>
   simp only[if_true] at hq ⊢
   exact wpS_lt2 hc hk (hG i hi) gk hq
  |false =>
   simp only[Bool.false_eq_true,if_false] at hq ⊢
   exact wpS_bind (wpS_lt2 hc hk gk (hG i hi) (wpS_pure hq))
 generalize hf:bey key l k arr b=f at ask mono hQ
 have monof:∀ i j,i≤j→j<n→f i=false→f j=false:=by
  intro i j hij hj hi
  cases hfj:f j with
  |false=>rfl
  |true=>rw[mono i j hij hj hfj] at hi; exact absurd hi (by simp)
 refine wpS_bind (ask h hh ?_)
 dsimp only
 by_cases hr:f h=true
 ·rw[if_pos hr]
  refine wpS_bind (wpS_mono (wpS_forRange (I:=fun x c st'=>st'=st∧∃ lf o,c=(none,lf,o)∧lf<o∧x+1≤o∧lf<n-h∧f (h+lf)=true)
   (Q:=fun c st'=>st'=st∧∃ lf o,c=(none,lf,o)∧lf<o∧lf<n-h∧f (h+lf)=true∧(o<n-h→f (h+o)=false)) ?is ?fi ⟨rfl,0,1,rfl,by lia,by lia,by lia,hr⟩) ?po)
  case is =>
   rintro x c st'-hx ⟨rfl,lf,o,rfl,h1,h2,h3,h4⟩
   dsimp only
   by_cases ho:o ≥ n-h
   ·rw[if_pos ho]
    exact wpS_pure ⟨rfl,lf,o,rfl,h1,h3,h4,fun z=>by lia⟩
   ·rw[if_neg ho]
    refine wpS_bind (ask (h+o) (by lia) ?_)
    dsimp only
    cases hfo:f (h+o) with
    |false=>exact wpS_pure ⟨rfl,lf,o,rfl,h1,h3,h4,fun _=>hfo⟩
    |true=>exact wpS_pure ⟨rfl,o,2*o+1,rfl,by lia,by lia,by lia,hfo⟩
  case fi =>
   rintro c st' ⟨rfl,lf,o,rfl,h1,h2,h3,h4⟩
   exact⟨rfl,lf,o,rfl,h1,h3,h4,fun z=>by lia⟩
  case po =>
   rintro c st' ⟨rfl,lf,o,rfl,h1,h3,h4,h5⟩
   dsimp only
   refine wpS_bind (wpS_mono (wpS_forRange (I:=fun x c st''=>st''=st'∧∃ lo hi,c=(none,lo,hi)∧lo≤hi∧hi≤n∧hi-lo≤n-x∧(∀ i,i<lo→f i=true)∧(∀ i,hi≤i→i<n→f i=false))
    (Q:=fun c st''=>st''=st'∧∃ lo hi,c=(none,lo,hi)∧lo=hi∧hi≤n∧(∀ i,i<lo→f i=true)∧(∀ i,hi≤i→i<n→f i=false)) ?is2 ?fi2 ?in2) ?po2)
   case is2 =>
    rintro x c st''-hx ⟨rfl,lo,hi,rfl,g1,g2,g3,g4,g5⟩
    dsimp only
    by_cases hge:lo ≥ hi
    ·rw[if_pos hge]
     exact wpS_pure ⟨rfl,lo,hi,rfl,by lia,g2,g4,g5⟩
    ·rw[if_neg hge]
     refine wpS_bind (ask (lo+(hi-lo) / 2) (by lia) ?_)
     dsimp only
     cases hm:f (lo+(hi-lo) / 2) with
     |true=>exact wpS_pure ⟨rfl,lo+(hi-lo) / 2+1,hi,rfl,by lia,g2,by lia,fun i z=>mono i (lo+(hi-lo) / 2) (by lia) (by lia) hm,g5⟩
     |false=>exact wpS_pure ⟨rfl,lo,lo+(hi-lo) / 2,rfl,by lia,by lia,by lia,g4,fun i z zn=>monof (lo+(hi-lo) / 2) i z zn hm⟩
   case fi2 =>
    rintro c st'' ⟨rfl,lo,hi,rfl,g1,g2,g3,g4,g5⟩
    exact⟨rfl,lo,hi,rfl,by lia,g2,g4,g5⟩
   case in2 =>
    refine⟨rfl,_,_,rfl,by lia,by lia,by lia,fun i z=>mono i (h+lf) (by lia) (by lia) h4,fun i z zn=>?_⟩
    by_cases ho:o<n-h
    ·exact monof (h+o) i (by lia) zn (h5 ho)
    ·lia
   case po2 =>
    rintro c st'' ⟨rfl,lo,hi,rfl,g1,g2,g4,g5⟩
    subst g1
    exact wpS_pure (hQ lo g2 g4 g5)
 ·have hr':f h=false:=by simpa using hr
  rw[if_neg hr]
  refine wpS_bind (wpS_mono (wpS_forRange (I:=fun x c st'=>st'=st∧∃ lf o,c=(none,lf,o)∧lf<o∧x+1≤o∧lf<h+1∧f (h-lf)=false)
   (Q:=fun c st'=>st'=st∧∃ lf o,c=(none,lf,o)∧lf<o∧lf<h+1∧f (h-lf)=false∧(o<h+1→f (h-o)=true)) ?is ?fi ⟨rfl,0,1,rfl,by lia,by lia,by lia,hr'⟩) ?po)
  case is =>
   rintro x c st'-hx ⟨rfl,lf,o,rfl,h1,h2,h3,h4⟩
   dsimp only
   by_cases ho:o ≥ h+1
   ·rw[if_pos ho]
    exact wpS_pure ⟨rfl,lf,o,rfl,h1,h3,h4,fun z=>by lia⟩
   ·rw[if_neg ho]
    refine wpS_bind (ask (h-o) (by lia) ?_)
    dsimp only
    cases hfo:f (h-o) with
    |true=>exact wpS_pure ⟨rfl,lf,o,rfl,h1,h3,h4,fun _=>hfo⟩
    |false=>exact wpS_pure ⟨rfl,o,2*o+1,rfl,by lia,by lia,by lia,hfo⟩
  case fi =>
   rintro c st' ⟨rfl,lf,o,rfl,h1,h2,h3,h4⟩
   exact⟨rfl,lf,o,rfl,h1,h3,h4,fun z=>by lia⟩
  case po =>
   rintro c st' ⟨rfl,lf,o,rfl,h1,h3,h4,h5⟩
   dsimp only
   refine wpS_bind (wpS_mono (wpS_forRange (I:=fun x c st''=>st''=st'∧∃ lo hi,c=(none,lo,hi)∧lo≤hi∧hi≤n∧hi-lo≤n-x∧(∀ i,i<lo→f i=true)∧(∀ i,hi≤i→i<n→f i=false))
    (Q:=fun c st''=>st''=st'∧∃ lo hi,c=(none,lo,hi)∧lo=hi∧hi≤n∧(∀ i,i<lo→f i=true)∧(∀ i,hi≤i→i<n→f i=false)) ?is2 ?fi2 ?in2) ?po2)
   case is2 =>
    rintro x c st''-hx ⟨rfl,lo,hi,rfl,g1,g2,g3,g4,g5⟩
    dsimp only
    by_cases hge:lo ≥ hi
    ·rw[if_pos hge]
     exact wpS_pure ⟨rfl,lo,hi,rfl,by lia,g2,g4,g5⟩
    ·rw[if_neg hge]
     refine wpS_bind (ask (lo+(hi-lo) / 2) (by lia) ?_)
     dsimp only
     cases hm:f (lo+(hi-lo) / 2) with
     |true=>exact wpS_pure ⟨rfl,lo+(hi-lo) / 2+1,hi,rfl,by lia,g2,by lia,fun i z=>mono i (lo+(hi-lo) / 2) (by lia) (by lia) hm,g5⟩
     |false=>exact wpS_pure ⟨rfl,lo,lo+(hi-lo) / 2,rfl,by lia,by lia,by lia,g4,fun i z zn=>monof (lo+(hi-lo) / 2) i z zn hm⟩
   case fi2 =>
    rintro c st'' ⟨rfl,lo,hi,rfl,g1,g2,g3,g4,g5⟩
    exact⟨rfl,lo,hi,rfl,by lia,g2,g4,g5⟩
   case in2 =>
    refine⟨rfl,_,_,rfl,by lia,by lia,by lia,fun i z=>?_,fun i z zn=>monof (h-lf) i (by lia) zn h4⟩
    by_cases ho:o<h+1
    ·exact mono i (h-o) (by lia) (by lia) (h5 ho)
    ·lia
   case po2 =>
    rintro c st'' ⟨rfl,lo,hi,rfl,g1,g2,g4,g5⟩
    subst g1
    exact wpS_pure (hQ lo g2 g4 g5)
end
end Sg
namespace Sg
open PySem PyProof.Rows
abbrev setGal (st:SortSt)(g:Nat):SortSt:=SortSt.mk' (kindOf st) (arrOf st) (pendingOf st) g (failedOf st)
def Same (st st':SortSt):Prop:=∃ g,st'=setGal st g
theorem Same.refl (st:SortSt):Same st st:=⟨gallopOf st,rfl⟩
theorem Same.gal {st st':SortSt}(h:Same st st')(g:Nat):Same st (setGal st' g):=by
 obtain⟨g',rfl⟩:=h
 exact⟨g,rfl⟩
theorem Same.kind {st st':SortSt}(h:Same st st'):kindOf st'=kindOf st:=by
 obtain⟨g',rfl⟩:=h
 rfl
section pure
variable {O:KeyOrd}{key:Keyed→O.α}
theorem drop_cons {xs:Array Keyed}{i:Nat}(h:i<xs.size):xs.toList.drop i=nth xs i::xs.toList.drop (i+1):=by
 have h':i<xs.toList.length:=by simpa using h
 rw[List.drop_eq_getElem_cons h']
 congr 1
 have e:=nth_list h
 rw[List.getElem?_eq_getElem h'] at e
 exact Option.some.inj e
theorem up_nth {xs:Array Keyed}(u:Up key xs.toList){i j:Nat}(hij:i≤j)(hj:j<xs.size):O.kle (key (nth xs i)) (key (nth xs j)):=by
 rcases Nat.eq_or_lt_of_le hij with rfl | hlt
 ·exact KeyOrd.kle_refl _
 ·have hi':i<xs.toList.length:=by simp; lia
  have hj':j<xs.toList.length:=by simpa using hj
  have e1:=nth_list (xs:=xs) (i:=i) (by lia)
  have e2:=nth_list hj
  rw[List.getElem?_eq_getElem hi'] at e1
  rw[List.getElem?_eq_getElem hj'] at e2
  have h:=List.pairwise_iff_getElem.mp u i j hi' hj' hlt
  rw[Option.some.inj e1,Option.some.inj e2] at h
  exact h
theorem mem_part {xs:Array Keyed}{i k:Nat}{x:Keyed}(h:x∈(xs.toList.drop i).take k):∃ j,j<k∧i+j<xs.size∧x=nth xs (i+j):=by
 obtain⟨j,hj,e⟩:=List.getElem_of_mem h
 have hj':=hj
 rw[List.length_take,List.length_drop,Array.length_toList] at hj'
 refine⟨j,by lia,by lia,?_⟩
 rw[← e,List.getElem_take,List.getElem_drop]
 have e2:=nth_list (xs:=xs) (i:=i+j) (by lia)
 rw[List.getElem?_eq_getElem (by simp; lia)] at e2
 exact Option.some.inj e2
theorem mem_rest {xs:Array Keyed}{i:Nat}{x:Keyed}(h:x∈xs.toList.drop i):∃ j,i+j<xs.size∧x=nth xs (i+j):=by
 have h':x∈(xs.toList.drop i).take (xs.toList.drop i).length:=by rw[List.take_length]; exact h
 obtain⟨j,-,h2,h3⟩:=mem_part h'
 exact⟨j,h2,h3⟩
theorem mem_upto {xs:Array Keyed}{n t:Nat}{x:Keyed}(h:x∈(xs.toList.take n).drop t):∃ j,t≤j∧j<n∧j<xs.size∧x=nth xs j:=by
 obtain⟨j,hj,e⟩:=List.getElem_of_mem h
 have hj':=hj
 rw[List.length_drop,List.length_take,Array.length_toList] at hj'
 refine⟨t+j,by lia,by lia,by lia,?_⟩
 rw[← e,List.getElem_drop,List.getElem_take]
 have e2:=nth_list (xs:=xs) (i:=t+j) (by lia)
 rw[List.getElem?_eq_getElem (by simp; lia)] at e2
 exact Option.some.inj e2
theorem mem_first {xs:Array Keyed}{n:Nat}{x:Keyed}(h:x∈xs.toList.take n):∃ j,j<n∧j<xs.size∧x=nth xs j:=by
 have h':x∈(xs.toList.take n).drop 0:=by rw[List.drop_zero]; exact h
 obtain⟨j,-,h2,h3,h4⟩:=mem_upto h'
 exact⟨j,h2,h3,h4⟩
theorem below_at {xs:Array Keyed}(u:Up key xs.toList){l:List Keyed}{i:Nat}(h:∀ x∈l,i<xs.size→O.kle (key x) (key (nth xs i))):Below key l (xs.toList.drop i):=by
 intro x hx y hy
 obtain⟨j,hj,rfl⟩:=mem_rest hy
 exact KeyOrd.kle_trans (h x hx (by lia)) (up_nth u (by lia) hj)
theorem below_upto {xs:Array Keyed}(u:Up key xs.toList){l:List Keyed}{n:Nat}(hn:n≤xs.size)(h:∀ x∈l,0<n→O.kle (key (nth xs (n-1))) (key x)):Below key (xs.toList.take n) l:=by
 intro x hx y hy
 obtain⟨j,hj,hj2,rfl⟩:=mem_first hx
 exact KeyOrd.kle_trans (up_nth u (by lia) (by lia)) (h y hy (by lia))
theorem bey_mono {l:Bool}{k:Keyed}{arr:Array Keyed}{b n:Nat}(h:∀ i j,i≤j→j<n→O.kle (key (nth arr (b+i))) (key (nth arr (b+j)))) :
  ∀ i j,i≤j→j<n→bey key l k arr b j=true→bey key l k arr b i=true:=by
 intro i j hij hj hb
 have hle:=h i j hij hj
 unfold bey at hb ⊢
 cases l with
 |true =>
  simp only[if_true] at hb ⊢
  exact KeyOrd.klt_of_kle_of_klt hle hb
 |false =>
  simp only[Bool.false_eq_true,if_false,Bool.not_eq_true'] at hb ⊢
  exact KeyOrd.kle_trans hle hb
theorem bey_right {k:Keyed}{arr:Array Keyed}{b i:Nat}:(bey key false k arr b i=true↔O.kle (key (nth arr (b+i))) (key k))∧(bey key false k arr b i=false↔O.klt (key k) (key (nth arr (b+i)))):=by
 unfold bey KeyOrd.kle KeyOrd.klt
 simp
theorem bey_left {k:Keyed}{arr:Array Keyed}{b i:Nat}:(bey key true k arr b i=true↔O.klt (key (nth arr (b+i))) (key k))∧(bey key true k arr b i=false↔O.kle (key k) (key (nth arr (b+i)))):=by
 unfold bey KeyOrd.kle KeyOrd.klt
 simp
def LoA (key:Keyed→O.α)(a b out:Array Keyed)(ia ib:Nat):Prop:=Lo key a.toList b.toList out.toList ia ib
def Fine (key:Keyed→O.α)(a b R:Array Keyed):Prop:=R.toList.Perm (a.toList++b.toList)∧Up key R.toList
variable {a b out:Array Keyed}{ia ib k:Nat}
theorem ext_part {xs:Array Keyed}{i k:Nat}:(xs.extract i (i+k)).toList=(xs.toList.drop i).take k:=by
 rw[Array.toList_extract,List.extract_eq_take_drop,Nat.add_sub_cancel_left]
theorem ext_rest {xs:Array Keyed}{i:Nat}:(xs.extract i xs.size).toList=xs.toList.drop i:=by
 rw[Array.toList_extract,List.extract_eq_take_drop,List.take_of_length_le (by simp)]
theorem ext_upto {xs:Array Keyed}{t n:Nat}(h:n≤xs.size):(xs.extract t n).toList=(xs.toList.take n).drop t:=by
 rw[Array.toList_extract,List.extract_eq_take_drop,List.drop_take]
theorem LoA.partA (h:LoA key a b out ia ib)(ua:Up key a.toList)(ub:Up key b.toList)(hb:∀ j,j<k→ia+j<a.size→ib<b.size→O.kle (key (nth a (ia+j))) (key (nth b ib))) :
  LoA key a b (out++a.extract ia (ia+k)) (ia+k) ib:=by
 unfold LoA
 rw[Array.toList_append,ext_part]
 refine Lo.chunkA h ua (below_at ub fun x hx hi=>?_)
 obtain⟨j,hj,hj2,rfl⟩:=mem_part hx
 exact hb j hj hj2 hi
theorem LoA.partB (h:LoA key a b out ia ib)(ua:Up key a.toList)(ub:Up key b.toList)(hb:∀ j,j<k→ib+j<b.size→ia<a.size→O.kle (key (nth b (ib+j))) (key (nth a ia))) :
  LoA key a b (out++b.extract ib (ib+k)) ia (ib+k):=by
 unfold LoA
 rw[Array.toList_append,ext_part]
 refine Lo.chunkB h ub (below_at ua fun x hx hi=>?_)
 obtain⟨j,hj,hj2,rfl⟩:=mem_part hx
 exact hb j hj hj2 hi
theorem LoA.pushA (h:LoA key a b out ia ib)(ua:Up key a.toList)(ub:Up key b.toList)(hi:ia<a.size)(hb:ib<b.size→O.kle (key (nth a ia)) (key (nth b ib))) :
  LoA key a b (out.push (nth a ia)) (ia+1) ib:=by
 have h':=LoA.partA (k:=1) h ua ub fun j hj _ hh=>by
  obtain rfl:j=0:=by lia
  exact hb hh
 unfold LoA at h' ⊢
 rw[Array.toList_append,ext_part,drop_cons hi,List.take_succ_cons,List.take_zero] at h'
 rw[Array.toList_push]
 exact h'
theorem LoA.pushB (h:LoA key a b out ia ib)(ua:Up key a.toList)(ub:Up key b.toList)(hi:ib<b.size)(hb:ia<a.size→O.kle (key (nth b ib)) (key (nth a ia))) :
  LoA key a b (out.push (nth b ib)) ia (ib+1):=by
 have h':=LoA.partB (k:=1) h ua ub fun j hj _ hh=>by
  obtain rfl:j=0:=by lia
  exact hb hh
 unfold LoA at h' ⊢
 rw[Array.toList_append,ext_part,drop_cons hi,List.take_succ_cons,List.take_zero] at h'
 rw[Array.toList_push]
 exact h'
theorem LoA.done (h:LoA key a b out ia ib)(ua:Up key a.toList)(ub:Up key b.toList)(hx:a.size≤ia∨b.size≤ib):Fine key a b (out++a.extract ia a.size++b.extract ib b.size):=by
 unfold Fine
 rw[Array.toList_append,Array.toList_append,ext_rest,ext_rest]
 refine Lo.finA h ua ub ?_
 rcases hx with hx | hx
 ·rw[List.drop_of_length_le (by simpa using hx)]; exact nil_below
 ·rw[List.drop_of_length_le (l:=b.toList) (by simpa using hx)]; exact below_nil
theorem LoA.last (h:LoA key a b out ia ib)(ua:Up key a.toList)(ub:Up key b.toList)(hl:∀ y∈b.toList,O.kle (key y) (key (nth a (a.size-1))))(hi:ia+1=a.size) :
  Fine key a b (out++b.extract ib b.size++a.extract ia a.size):=by
 unfold Fine
 rw[Array.toList_append,Array.toList_append,ext_rest,ext_rest]
 refine Lo.finB h ua ub (below_at ua fun x hx _=>?_)
 have e:ia=a.size-1:=by lia
 rw[e]
 exact hl x (List.mem_of_mem_drop hx)
end pure
section
variable {prog:Program}{w:World}{A:Around}{E:Value→Shared→Prop}{s:Shared}{O:KeyOrd}{key:Keyed→O.α}{G:Keyed→Prop}{kd:SortKind}{st:SortSt}
theorem wpS_setGal {g:Nat}{Q:Unit→SortSt→Prop}(h:Q () (setGal st g)):wpS (model prog w) A E s (setMinGallop' g) Q st:=wpS_modify h
@[elab_as_elim] theorem ex2 {α β σ:Type} {F:α→β→σ} {B:α→β→Prop} {c:σ} {T:σ→Prop} (h:∃ a b,c=F a b∧B a b) (k:∀ a b,B a b→T (F a b)):T c:=let ⟨_,_,e,h⟩:=h; e ▸ k _ _ h
@[elab_as_elim] theorem ex4 {α β γ δ σ:Type} {F:α→β→γ→δ→σ} {B:α→β→γ→δ→Prop} {c:σ} {T:σ→Prop} (h:∃ a b d e,c=F a b d e∧B a b d e) (k:∀ a b d e,B a b d e→T (F a b d e)):T c:=let ⟨_,_,_,_,e,h⟩:=h; e ▸ k _ _ _ _ h
@[elab_as_elim] theorem ex5 {α β γ δ ε σ:Type} {F:α→β→γ→δ→ε→σ} {B:α→β→γ→δ→ε→Prop} {c:σ} {T:σ→Prop} (h:∃ a b d e f,c=F a b d e f∧B a b d e f) (k:∀ a b d e f,B a b d e f→T (F a b d e f)):T c:=let ⟨_,_,_,_,_,e,h⟩:=h; e ▸ k _ _ _ _ _ h
@[elab_as_elim] theorem ex6 {α β γ δ ε ζ σ:Type} {F:α→β→γ→δ→ε→ζ→σ} {B:α→β→γ→δ→ε→ζ→Prop} {c:σ} {T:σ→Prop} (h:∃ a b d e f g,c=F a b d e f g∧B a b d e f g) (k:∀ a b d e f g,B a b d e f g→T (F a b d e f g)):T c:=let ⟨_,_,_,_,_,_,e,h⟩:=h; e ▸ k _ _ _ _ _ _ h
theorem wpS_if1 {β:Type}{c:Prop}[Decidable c]{p q:StateT SortSt Sem β}{F:Nat→StateT SortSt Sem β}{x y:Nat}{M:Model}{Q:β→SortSt→Prop}{st:SortSt}(hq:q=F y)(hp:p=F x)(h:∀ z,wpS M A E s (F z) Q st):wpS M A E s (if c then p else q) Q st:=by
 split
 ·rw[hp]; exact h x
 ·rw[hq]; exact h y
theorem wpS_if2 {β α γ:Type}{c:Prop}[Decidable c]{p q:StateT SortSt Sem β}{F:α→γ→StateT SortSt Sem β}{x:α}{y:γ}{M:Model}{Q:β→SortSt→Prop}{st:SortSt}(hq:q=F x y)(P:α→γ→Prop)(tl:∀ u v,P u v→wpS M A E s (F u v) Q st)
  (h1:c→(∀ u v,P u v→wpS M A E s (F u v) Q st)→wpS M A E s p Q st) (h2:¬ c→P x y):wpS M A E s (if c then p else q) Q st:=by
 by_cases h:c
 ·rw[if_pos h]; exact h1 h tl
 ·rw[if_neg h,hq]; exact tl _ _ (h2 h)
theorem wpS_mergeLo {a b:Array Keyed}{Q:Array Keyed→SortSt→Prop}(hc:Asks prog w s O key G kd)(hk:kindOf st=kd)
  (ga:∀ x∈a.toList,G x) (gb:∀ x∈b.toList,G x) (ua:Up key a.toList) (ub:Up key b.toList) (ha:1≤a.size) (hb:1≤b.size)
  (hf:O.kle (key (nth b 0)) (key (nth a 0))) (hl:∀ y∈b.toList,O.kle (key y) (key (nth a (a.size-1))))
  (h:∀ R st',Fine key a b R→Same st st'→Q R st'):wpS (model prog w) A E s (mergeLo' a b) Q st:=by
 refine wpS_bind (wpS_lift (wpAny_rule ⟨rfl,?_⟩))
 dsimp only
 refine wpS_bind (wpS_elem2 (by lia) ?_)
 have L0:LoA key a b #[nth b 0] 0 1:=by
  have l:LoA key a b #[] 0 0:=by
   refine⟨?_,List.Pairwise.nil,nil_below,nil_below⟩
   simp
  exact LoA.pushB l ua ub (by lia) fun _=>hf
 by_cases h1:(1 == b.size)=true
 ·rw[if_pos h1]
  exact wpS_pure (h _ _ (L0.done ua ub (.inr (by simp at h1; lia))) (Same.refl _))
 rw[if_neg h1]
 by_cases h2:(0+1 == a.size)=true
 ·rw[if_pos h2]
  exact wpS_pure (h _ _ (L0.last ua ub hl (by simp at h2; lia)) (Same.refl _))
 rw[if_neg h2]
 simp only[beq_iff_eq] at h1 h2
 refine wpS_bind (wpS_get ?_)
 refine wpS_bind (wpS_mono (wpS_forRange
  (I:=fun x c st'=>Same st st'∧∃ out ia ib g,c=(none,out,ia,ib,g)∧LoA key a b out ia ib∧ia+1<a.size∧ib<b.size∧x≤ia+ib)
  (Q:=fun c st'=>Same st st'∧∃ R rest,c=(some R,rest)∧Fine key a b R) ?is ?fi ⟨Same.refl _,_,_,_,_,rfl,L0,by lia,by lia,by lia⟩) ?po)
 case fi =>
  rintro c st' ⟨-,out,ia,ib,g,rfl,-,l1,l2,l3⟩
  exfalso
  lia
 case po =>
  rintro c st' ⟨sm,R,rest,rfl,hR⟩
  exact wpS_pure (h R st' hR sm)
 case is =>
  intro x c st' _ hx hI
  have sm:=hI.1
  refine ex4 (c:=c) hI.2 fun out ia ib g hB=>?_
  have L:=hB.1
  have l1:=hB.2.1
  have l2:=hB.2.2.1
  have l3:=hB.2.2.2
  dsimp only
  refine wpS_bind (wpS_mono (wpS_forRange
   (I:=fun y c st''=>st''=st'∧∃ out ia ib ac bc,c=(none,out,ia,ib,ac,bc)∧LoA key a b out ia ib∧ia+1<a.size∧ib<b.size∧x+y≤ia+ib)
   (Q:=fun c st''=>st''=st'∧((∃ R rest,c=(some R,rest)∧Fine key a b R) ∨
    ∃ out ia ib ac bc,c=(none,out,ia,ib,ac,bc)∧LoA key a b out ia ib∧ia+1<a.size∧ib<b.size∧x+1≤ia+ib)) ?is1 ?fi1 ⟨rfl,_,_,_,_,_,rfl,L,l1,l2,by lia⟩) ?po1)
  case fi1 =>
   rintro c st'' ⟨-,out,ia,ib,ac,bc,rfl,-,m1,m2,m3⟩
   exfalso
   lia
  case is1 =>
   intro y c st'' _ hy hI
   have e:=hI.1
   subst e
   refine ex5 (c:=c) hI.2 fun out ia ib ac bc hB=>?_
   have L:=hB.1
   have m1:=hB.2.1
   have m2:=hB.2.2.1
   have m3:=hB.2.2.2
   dsimp only
   refine wpS_bind (wpS_elem2 m2 (wpS_bind (wpS_elem2 (by lia) (wpS_bind (wpS_lt2 hc (sm.kind.trans hk) (gb _ (nth_mem m2)) (ga _ (nth_mem (by lia))) ?_)))))
   dsimp only
   cases hw:O.blt (key (nth b ib)) (key (nth a ia)) with
   |true =>
    simp only[if_true]
    refine wpS_bind (wpS_elem2 m2 ?_)
    have L2:=L.pushB ua ub m2 fun _=>KeyOrd.kle_of_klt hw
    by_cases e1:(ib+1 == b.size)=true
    ·rw[if_pos e1]
     simp only[beq_iff_eq] at e1
     exact wpS_pure ⟨rfl,.inl ⟨_,_,rfl,L2.done ua ub (.inr (by lia))⟩⟩
    ·rw[if_neg e1]
     simp only[beq_iff_eq] at e1
     split
     ·exact wpS_pure ⟨rfl,.inr ⟨_,_,_,_,_,rfl,L2,m1,by lia,by lia⟩⟩
     ·exact wpS_pure ⟨rfl,_,_,_,_,_,rfl,L2,m1,by lia,by lia⟩
   |false =>
    simp only[Bool.false_eq_true,if_false]
    refine wpS_bind (wpS_elem2 (by lia) ?_)
    have L2:=L.pushA ua ub (by lia) fun _=>hw
    by_cases e1:(ia+1+1 == a.size)=true
    ·rw[if_pos e1]
     simp only[beq_iff_eq] at e1
     exact wpS_pure ⟨rfl,.inl ⟨_,_,rfl,L2.last ua ub hl (by lia)⟩⟩
    ·rw[if_neg e1]
     simp only[beq_iff_eq] at e1
     split
     ·exact wpS_pure ⟨rfl,.inr ⟨_,_,_,_,_,rfl,L2,by lia,m2,by lia⟩⟩
     ·exact wpS_pure ⟨rfl,_,_,_,_,_,rfl,L2,by lia,m2,by lia⟩
  case po1 =>
   intro c st'' hQ
   have e:=hQ.1
   subst e
   refine hQ.2.elim (fun hR=>ex2 (c:=c) hR fun R rest hR=>?_) fun hI=>ex5 (c:=c) hI fun out ia ib ac bc hB=>?_
   ·dsimp only
    exact wpS_pure ⟨sm,R,_,rfl,hR⟩
   ·have L:=hB.1
    have m1:=hB.2.1
    have m2:=hB.2.2.1
    have m3:=hB.2.2.2
    dsimp only
    refine wpS_bind (wpS_lift (wpAny_rule ⟨rfl,?_⟩))
    refine wpS_bind (wpS_mono (wpS_forRange
     (I:=fun y c st3=>Same st st3∧∃ out ia ib g ac bc,c=(none,out,ia,ib,g,ac,bc)∧LoA key a b out ia ib∧ia+1<a.size∧ib<b.size∧x+1+y≤ia+ib)
     (Q:=fun c st3=>Same st st3∧((∃ R rest,c=(some R,rest)∧Fine key a b R) ∨
      ∃ out ia ib g ac bc,c=(none,out,ia,ib,g,ac,bc)∧LoA key a b out ia ib∧ia+1<a.size∧ib<b.size∧x+1≤ia+ib)) ?is2 ?fi2 ⟨sm,_,_,_,_,_,_,rfl,L,m1,m2,by lia⟩) ?po2)
    case fi2 =>
     rintro c st3 ⟨-,out,ia,ib,g,ac,bc,rfl,-,m1,m2,m3⟩
     exfalso
     lia
    case po2 =>
     intro c st3 hQ
     have sm:=hQ.1
     refine hQ.2.elim (fun hR=>ex2 (c:=c) hR fun R rest hR=>?_) fun hI=>ex6 (c:=c) hI fun out ia ib g ac bc hB=>?_
     ·dsimp only
      exact wpS_pure ⟨sm,R,_,rfl,hR⟩
     ·have L:=hB.1
      have m1:=hB.2.1
      have m2:=hB.2.2.1
      have m3:=hB.2.2.2
      dsimp only
      exact wpS_bind (wpS_setGal (wpS_pure ⟨sm.gal _,_,_,_,_,rfl,L,m1,m2,by lia⟩))
    case is2 =>
     intro y c st3 _ hy hI
     have sm:=hI.1
     refine ex6 (c:=c) hI.2 fun out ia ib g ac bc hB=>?_
     have L:=hB.1
     have m1:=hB.2.1
     have m2:=hB.2.2.1
     have m3:=hB.2.2.2
     dsimp only
     refine wpS_if1 (x:=g-1) (y:=g) (by rfl) (by rfl) fun g=>?_
     refine wpS_bind (wpS_setGal ?_)
     refine wpS_bind (wpS_elem2 m2 (wpS_bind (wpS_gallop hc ((Same.kind (sm.gal _)).trans hk) (fun i hi=>ga _ (nth_mem (by lia))) (gb _ (nth_mem m2)) (by lia) (by lia)
      (bey_mono fun i j hij hj=>up_nth ua (by lia) (by lia)) fun k k1 k2 k3=>?_)))
     dsimp only
     have L1:=L.partA (k:=k) ua ub fun j hj _ _=>bey_right.1.mp (k2 j hj)
     have hnx:ia+k<a.size→O.kle (key (nth b ib)) (key (nth a (ia+k))):=fun hh=>KeyOrd.kle_of_klt (bey_right.2.mp (k3 k (Nat.le_refl _) (by lia)))
     refine wpS_if2 (x:=out) (y:=ia) (by rfl) (fun out1 ia1=>LoA key a b out1 ia1 ib∧ia1+1<a.size∧x+1+y≤ia1+ib∧(ia1<a.size→O.kle (key (nth b ib)) (key (nth a ia1)))) ?t1 (fun hk0 tl=>?p1) fun hk0=>?n1
     case n1 =>
      have hk':k=0:=by lia
      subst hk'
      exact⟨L,m1,m3,hnx⟩
     case p1 =>
      by_cases e1:(ia+k+1 == a.size)=true
      ·rw[if_pos e1]
       simp only[beq_iff_eq] at e1
       exact wpS_pure ⟨sm.gal _,.inl ⟨_,_,rfl,L1.last ua ub hl (by lia)⟩⟩
      rw[if_neg e1]
      by_cases e2:(ia+k == a.size)=true
      ·rw[if_pos e2]
       simp only[beq_iff_eq] at e2
       exact wpS_pure ⟨sm.gal _,.inl ⟨_,_,rfl,L1.done ua ub (.inl (by lia))⟩⟩
      rw[if_neg e2]
      simp only[beq_iff_eq] at e1 e2
      exact tl _ _ ⟨L1,by lia,by lia,hnx⟩
     case t1 =>
      clear hnx L1 k1 k2 k3 L m3 m1
      rintro out1 ia1 ⟨L1,n1,n2,hnx⟩
      refine wpS_bind (wpS_elem2 m2 ?_)
      have L2:=L1.pushB ua ub m2 hnx
      by_cases e3:(ib+1 == b.size)=true
      ·rw[if_pos e3]
       simp only[beq_iff_eq] at e3
       exact wpS_pure ⟨sm.gal _,.inl ⟨_,_,rfl,L2.done ua ub (.inr (by lia))⟩⟩
      rw[if_neg e3]
      simp only[beq_iff_eq] at e3
      have n3:ib+1<b.size:=by lia
      have n5:x+1+y+1≤ia1+(ib+1):=by lia
      clear hnx L1 n2 e3
      generalize out1.push (nth b ib)=out2 at L2 ⊢
      generalize ib+1=ib2 at L2 n3 n5 ⊢
      refine wpS_bind (wpS_elem2 (by lia) (wpS_bind (wpS_gallop hc ((Same.kind (sm.gal _)).trans hk) (fun i hi=>gb _ (nth_mem (by lia))) (ga _ (nth_mem (by lia))) (by lia) (by lia)
       (bey_mono fun i j hij hj=>up_nth ub (by lia) (by lia)) fun q q1 q2 q3=>?_)))
      dsimp only
      have L3:=L2.partB (k:=q) ua ub fun j hj _ _=>KeyOrd.kle_of_klt (bey_left.1.mp (q2 j hj))
      have hny:ib2+q<b.size→O.kle (key (nth a ia1)) (key (nth b (ib2+q))):=fun hh=>bey_left.2.mp (q3 q (Nat.le_refl _) (by lia))
      refine wpS_if2 (x:=out2) (y:=ib2) (by rfl) (fun out3 ib3=>LoA key a b out3 ia1 ib3∧ib3<b.size∧x+1+y+1≤ia1+ib3∧(ib3<b.size→O.kle (key (nth a ia1)) (key (nth b ib3)))) ?t2 (fun hq0 tl=>?p2) fun hq0=>?n2
      case n2 =>
       have hq:q=0:=by lia
       subst hq
       exact⟨L2,n3,n5,hny⟩
      case p2 =>
       by_cases e4:(ib2+q == b.size)=true
       ·rw[if_pos e4]
        simp only[beq_iff_eq] at e4
        exact wpS_pure ⟨sm.gal _,.inl ⟨_,_,rfl,L3.done ua ub (.inr (by lia))⟩⟩
       rw[if_neg e4]
       simp only[beq_iff_eq] at e4
       exact tl _ _ ⟨L3,by lia,by lia,hny⟩
      case t2 =>
       clear hny L3 q1 q2 q3 L2 n3 n5
       rintro out3 ib3 ⟨L3,n4,n5,hny⟩
       refine wpS_bind (wpS_elem2 (by lia) ?_)
       have L4:=L3.pushA ua ub (by lia) hny
       by_cases e5:(ia1+1+1 == a.size)=true
       ·rw[if_pos e5]
        simp only[beq_iff_eq] at e5
        exact wpS_pure ⟨sm.gal _,.inl ⟨_,_,rfl,L4.last ua ub hl (by lia)⟩⟩
       rw[if_neg e5]
       simp only[beq_iff_eq] at e5
       split
       ·exact wpS_pure ⟨sm.gal _,.inr ⟨_,_,_,_,_,_,rfl,L4,by lia,by lia,by lia⟩⟩
       ·exact wpS_pure ⟨sm.gal _,_,_,_,_,_,_,rfl,L4,by lia,by lia,by lia⟩
end
end Sg
namespace Sg
open PySem PyProof.Rows
section pure
variable {O:KeyOrd}{key:Keyed→O.α}{a b out:Array Keyed}{na nb t:Nat}
def HiA (key:Keyed→O.α)(a b out:Array Keyed)(na nb:Nat):Prop:=Hi key a.toList b.toList out.toList na nb
theorem upto_one {xs:Array Keyed}{n:Nat}(h0:0<n)(hn:n≤xs.size):(xs.toList.take n).drop (n-1)=[nth xs (n-1)]:=by
 rw[List.drop_take,drop_cons (by lia),show n-(n-1)=1 by lia,List.take_succ_cons,List.take_zero]
theorem HiA.partA (h:HiA key a b out na nb)(ua:Up key a.toList)(ub:Up key b.toList)(ht:t≤na)(hn:na≤a.size)(hm:nb≤b.size)(hb:∀ j,t≤j→j<na→0<nb→O.kle (key (nth b (nb-1))) (key (nth a j))) :
  HiA key a b (out++(a.extract t na).reverse) t nb:=by
 unfold HiA
 rw[Array.toList_append,Array.toList_reverse,ext_upto hn]
 refine Hi.chunkA h ua ht (below_upto ub hm fun x hx hi=>?_)
 obtain⟨j,h1,h2,h3,rfl⟩:=mem_upto hx
 exact hb j h1 h2 hi
theorem HiA.partB (h:HiA key a b out na nb)(ua:Up key a.toList)(ub:Up key b.toList)(ht:t≤nb)(hn:nb≤b.size)(hm:na≤a.size)(hb:∀ j,t≤j→j<nb→0<na→O.kle (key (nth a (na-1))) (key (nth b j))) :
  HiA key a b (out++(b.extract t nb).reverse) na t:=by
 unfold HiA
 rw[Array.toList_append,Array.toList_reverse,ext_upto hn]
 refine Hi.chunkB h ub ht (below_upto ua hm fun x hx hi=>?_)
 obtain⟨j,h1,h2,h3,rfl⟩:=mem_upto hx
 exact hb j h1 h2 hi
theorem HiA.pushA (h:HiA key a b out na nb)(ua:Up key a.toList)(ub:Up key b.toList)(hi:0<na∧na≤a.size)(hm:nb≤b.size)(hb:0<nb→O.kle (key (nth b (nb-1))) (key (nth a (na-1)))) :
  HiA key a b (out.push (nth a (na-1))) (na-1) nb:=by
 have h':=HiA.partA (t:=na-1) h ua ub (by lia) hi.2 hm fun j h1 h2 h3=>by
  obtain rfl:j=na-1:=by lia
  exact hb h3
 unfold HiA at h' ⊢
 rw[Array.toList_append,Array.toList_reverse,ext_upto hi.2,upto_one hi.1 hi.2,List.reverse_singleton] at h'
 rw[Array.toList_push]
 exact h'
theorem HiA.pushB (h:HiA key a b out na nb)(ua:Up key a.toList)(ub:Up key b.toList)(hi:0<nb∧nb≤b.size)(hm:na≤a.size)(hb:0<na→O.kle (key (nth a (na-1))) (key (nth b (nb-1)))) :
  HiA key a b (out.push (nth b (nb-1))) na (nb-1):=by
 have h':=HiA.partB (t:=nb-1) h ua ub (by lia) hi.2 hm fun j h1 h2 h3=>by
  obtain rfl:j=nb-1:=by lia
  exact hb h3
 unfold HiA at h' ⊢
 rw[Array.toList_append,Array.toList_reverse,ext_upto hi.2,upto_one hi.1 hi.2,List.reverse_singleton] at h'
 rw[Array.toList_push]
 exact h'
theorem ext_first {xs:Array Keyed}{n:Nat}:(xs.extract 0 n).toList=xs.toList.take n:=by
 rw[Array.toList_extract,List.extract_eq_take_drop,List.drop_zero,Nat.sub_zero]
theorem HiA.done (h:HiA key a b out na nb)(ua:Up key a.toList)(ub:Up key b.toList)(hx:na=0∨nb=0):Fine key a b (a.extract 0 na++b.extract 0 nb++out.reverse):=by
 unfold Fine
 rw[Array.toList_append,Array.toList_append,ext_first,ext_first,Array.toList_reverse]
 refine Hi.finA h ua ub ?_
 rcases hx with rfl | rfl
 ·exact nil_below
 ·exact below_nil
theorem HiA.first (h:HiA key a b out na nb)(ua:Up key a.toList)(ub:Up key b.toList)(hf:O.kle (key (nth b 0)) (key (nth a 0)))(hi:nb=1)(hb:nb≤b.size) :
  Fine key a b (b.extract 0 nb++a.extract 0 na++out.reverse):=by
 unfold Fine
 rw[Array.toList_append,Array.toList_append,ext_first,ext_first,Array.toList_reverse]
 refine Hi.finB h ua ub (below_upto ub hb fun x hx _=>?_)
 obtain⟨j,h1,h2,rfl⟩:=mem_first hx
 subst hi
 exact KeyOrd.kle_trans hf (up_nth ua (Nat.zero_le _) h2)
end pure
section
variable {prog:Program}{w:World}{A:Around}{E:Value→Shared→Prop}{s:Shared}{O:KeyOrd}{key:Keyed→O.α}{G:Keyed→Prop}{kd:SortKind}{st:SortSt}
theorem wpS_mergeHi {a b:Array Keyed}{Q:Array Keyed→SortSt→Prop}(hc:Asks prog w s O key G kd)(hk:kindOf st=kd)
  (ga:∀ x∈a.toList,G x) (gb:∀ x∈b.toList,G x) (ua:Up key a.toList) (ub:Up key b.toList) (ha:1≤a.size) (hb:1≤b.size)
  (hf:O.kle (key (nth b 0)) (key (nth a 0))) (hl:∀ y∈b.toList,O.kle (key y) (key (nth a (a.size-1))))
  (h:∀ R st',Fine key a b R→Same st st'→Q R st'):wpS (model prog w) A E s (mergeHi' a b) Q st:=by
 refine wpS_bind (wpS_lift (wpAny_rule ⟨rfl,?_⟩))
 dsimp only
 refine wpS_bind (wpS_elem2 (by lia) ?_)
 have L0:HiA key a b #[nth a (a.size-1)] (a.size-1) b.size:=by
  have l:HiA key a b #[] a.size b.size:=by
   refine⟨?_,List.Pairwise.nil,below_nil,below_nil⟩
   simp
  exact HiA.pushA l ua ub (by lia) (by lia) fun _=>hl _ (nth_mem (by lia))
 by_cases h1:(a.size-1 == 0)=true
 ·rw[if_pos h1]
  exact wpS_pure (h _ _ (L0.done ua ub (.inl (by simp at h1; lia))) (Same.refl _))
 rw[if_neg h1]
 by_cases h2:(b.size == 1)=true
 ·rw[if_pos h2]
  exact wpS_pure (h _ _ (L0.first ua ub hf (by simp at h2; lia) (by lia)) (Same.refl _))
 rw[if_neg h2]
 simp only[beq_iff_eq] at h1 h2
 refine wpS_bind (wpS_get ?_)
 refine wpS_bind (wpS_mono (wpS_forRange
  (I:=fun x c st'=>Same st st'∧∃ na nb out g,c=(none,na,nb,out,g)∧HiA key a b out na nb∧0<na∧na≤a.size∧1<nb∧nb≤b.size∧x+na+nb≤a.size+b.size)
  (Q:=fun c st'=>Same st st'∧∃ R rest,c=(some R,rest)∧Fine key a b R) ?is ?fi ⟨Same.refl _,_,_,_,_,rfl,L0,by lia,by lia,by lia,by lia,by lia⟩) ?po)
 case fi =>
  rintro c st' ⟨-,na,nb,out,g,rfl,-,l1,l2,l3,l4,l5⟩
  exfalso
  lia
 case po =>
  rintro c st' ⟨sm,R,rest,rfl,hR⟩
  exact wpS_pure (h R st' hR sm)
 case is =>
  intro x c st' _ hx hI
  have sm:=hI.1
  refine ex4 (c:=c) hI.2 fun na nb out g hB=>?_
  have L:=hB.1
  have l1:=hB.2.1
  have l2:=hB.2.2.1
  have l3:=hB.2.2.2.1
  have l4:=hB.2.2.2.2.1
  have l5:=hB.2.2.2.2.2
  dsimp only
  refine wpS_bind (wpS_mono (wpS_forRange
   (I:=fun y c st''=>st''=st'∧∃ na nb out ac bc,c=(none,na,nb,out,ac,bc)∧HiA key a b out na nb∧0<na∧na≤a.size∧1<nb∧nb≤b.size∧x+y+na+nb≤a.size+b.size)
   (Q:=fun c st''=>st''=st'∧((∃ R rest,c=(some R,rest)∧Fine key a b R) ∨
    ∃ na nb out ac bc,c=(none,na,nb,out,ac,bc)∧HiA key a b out na nb∧0<na∧na≤a.size∧1<nb∧nb≤b.size∧x+1+na+nb≤a.size+b.size)) ?is1 ?fi1 ⟨rfl,_,_,_,_,_,rfl,L,l1,l2,l3,l4,by lia⟩) ?po1)
  case fi1 =>
   rintro c st'' ⟨-,na,nb,out,ac,bc,rfl,-,m1,m2,m3,m4,m5⟩
   exfalso
   lia
  case is1 =>
   intro y c st'' _ hy hI
   have e:=hI.1
   subst e
   refine ex5 (c:=c) hI.2 fun na nb out ac bc hB=>?_
   have L:=hB.1
   have m1:=hB.2.1
   have m2:=hB.2.2.1
   have m3:=hB.2.2.2.1
   have m4:=hB.2.2.2.2.1
   have m5:=hB.2.2.2.2.2
   dsimp only
   refine wpS_bind (wpS_elem2 (by lia) (wpS_bind (wpS_elem2 (by lia) (wpS_bind (wpS_lt2 hc (sm.kind.trans hk) (gb _ (nth_mem (by lia))) (ga _ (nth_mem (by lia))) ?_)))))
   dsimp only
   cases hw:O.blt (key (nth b (nb-1))) (key (nth a (na-1))) with
   |true =>
    simp only[if_true]
    refine wpS_bind (wpS_elem2 (by lia) ?_)
    have L2:=L.pushA ua ub (by lia) m4 fun _=>KeyOrd.kle_of_klt hw
    by_cases e1:(na-1 == 0)=true
    ·rw[if_pos e1]
     simp only[beq_iff_eq] at e1
     exact wpS_pure ⟨rfl,.inl ⟨_,_,rfl,L2.done ua ub (.inl (by lia))⟩⟩
    ·rw[if_neg e1]
     simp only[beq_iff_eq] at e1
     split
     ·exact wpS_pure ⟨rfl,.inr ⟨_,_,_,_,_,rfl,L2,by lia,by lia,by lia,by lia,by lia⟩⟩
     ·exact wpS_pure ⟨rfl,_,_,_,_,_,rfl,L2,by lia,by lia,by lia,by lia,by lia⟩
   |false =>
    simp only[Bool.false_eq_true,if_false]
    refine wpS_bind (wpS_elem2 (by lia) ?_)
    have L2:=L.pushB ua ub (by lia) m2 fun _=>hw
    by_cases e1:(nb-1 == 1)=true
    ·rw[if_pos e1]
     simp only[beq_iff_eq] at e1
     exact wpS_pure ⟨rfl,.inl ⟨_,_,rfl,L2.first ua ub hf (by lia) (by lia)⟩⟩
    ·rw[if_neg e1]
     simp only[beq_iff_eq] at e1
     split
     ·exact wpS_pure ⟨rfl,.inr ⟨_,_,_,_,_,rfl,L2,by lia,by lia,by lia,by lia,by lia⟩⟩
     ·exact wpS_pure ⟨rfl,_,_,_,_,_,rfl,L2,by lia,by lia,by lia,by lia,by lia⟩
  case po1 =>
   intro c st'' hQ
   have e:=hQ.1
   subst e
   refine hQ.2.elim (fun hR=>ex2 (c:=c) hR fun R rest hR=>?_) fun hI=>ex5 (c:=c) hI fun na nb out ac bc hB=>?_
   ·dsimp only
    exact wpS_pure ⟨sm,R,_,rfl,hR⟩
   ·have L:=hB.1
    have m1:=hB.2.1
    have m2:=hB.2.2.1
    have m3:=hB.2.2.2.1
    have m4:=hB.2.2.2.2.1
    have m5:=hB.2.2.2.2.2
    dsimp only
    refine wpS_bind (wpS_lift (wpAny_rule ⟨rfl,?_⟩))
    refine wpS_bind (wpS_mono (wpS_forRange
     (I:=fun y c st3=>Same st st3∧∃ na nb out g ac bc,c=(none,na,nb,out,g,ac,bc)∧HiA key a b out na nb∧0<na∧na≤a.size∧1<nb∧nb≤b.size∧x+1+y+na+nb≤a.size+b.size)
     (Q:=fun c st3=>Same st st3∧((∃ R rest,c=(some R,rest)∧Fine key a b R) ∨
      ∃ na nb out g ac bc,c=(none,na,nb,out,g,ac,bc)∧HiA key a b out na nb∧0<na∧na≤a.size∧1<nb∧nb≤b.size∧x+1+na+nb≤a.size+b.size)) ?is2 ?fi2 ⟨sm,_,_,_,_,_,_,rfl,L,m1,m2,m3,m4,by lia⟩) ?po2)
    case fi2 =>
     rintro c st3 ⟨-,na,nb,out,g,ac,bc,rfl,-,m1,m2,m3,m4,m5⟩
     exfalso
     lia
    case po2 =>
     intro c st3 hQ
     have sm:=hQ.1
     refine hQ.2.elim (fun hR=>ex2 (c:=c) hR fun R rest hR=>?_) fun hI=>ex6 (c:=c) hI fun na nb out g ac bc hB=>?_
     ·dsimp only
      exact wpS_pure ⟨sm,R,_,rfl,hR⟩
     ·have L:=hB.1
      have m1:=hB.2.1
      have m2:=hB.2.2.1
      have m3:=hB.2.2.2.1
      have m4:=hB.2.2.2.2.1
      have m5:=hB.2.2.2.2.2
      dsimp only
      exact wpS_bind (wpS_setGal (wpS_pure ⟨sm.gal _,_,_,_,_,rfl,L,m1,m2,m3,m4,by lia⟩))
    case is2 =>
     intro y c st3 _ hy hI
     have sm:=hI.1
     refine ex6 (c:=c) hI.2 fun na nb out g ac bc hB=>?_
     have L:=hB.1
     have m1:=hB.2.1
     have m2:=hB.2.2.1
     have m3:=hB.2.2.2.1
     have m4:=hB.2.2.2.2.1
     have m5:=hB.2.2.2.2.2
     dsimp only
     refine wpS_if1 (x:=g-1) (y:=g) (by rfl) (by rfl) fun g=>?_
     refine wpS_bind (wpS_setGal ?_)
     refine wpS_bind (wpS_elem2 (by lia) (wpS_bind (wpS_gallop hc ((Same.kind (sm.gal _)).trans hk) (fun i hi=>ga _ (nth_mem (by lia))) (gb _ (nth_mem (by lia))) (by lia) (by lia)
      (bey_mono fun i j hij hj=>up_nth ua (by lia) (by lia)) fun k k1 k2 k3=>?_)))
     dsimp only
     have L1:=L.partA (t:=k) ua ub (by lia) (by lia) (by lia) fun j hj hj2 _=>by
      have z:=KeyOrd.kle_of_klt (bey_right.2.mp (k3 j hj hj2))
      rwa [Nat.zero_add] at z
     have hnx:0<k→O.kle (key (nth a (k-1))) (key (nth b (nb-1))):=fun hh=>by
      have z:=bey_right.1.mp (k2 (k-1) (by lia))
      rwa [Nat.zero_add] at z
     generalize hac:na-k=ac2
     refine wpS_if2 (x:=out) (y:=na) (by rfl) (fun out1 na1=>HiA key a b out1 na1 nb∧0<na1∧na1≤a.size∧x+1+y+na1+nb≤a.size+b.size∧(0<na1→O.kle (key (nth a (na1-1))) (key (nth b (nb-1))))) ?t1 (fun hk0 tl=>?p1) fun hk0=>?n1
     case n1 =>
      have hk':k=na:=by lia
      subst hk'
      exact⟨L,m1,m2,m5,hnx⟩
     case p1 =>
      by_cases e1:(k == 0)=true
      ·rw[if_pos e1]
       simp only[beq_iff_eq] at e1
       exact wpS_pure ⟨sm.gal _,.inl ⟨_,_,rfl,L1.done ua ub (.inl (by lia))⟩⟩
      rw[if_neg e1]
      simp only[beq_iff_eq] at e1
      exact tl _ _ ⟨L1,by lia,by lia,by lia,hnx⟩
     case t1 =>
      clear hnx L1 hac k1 k2 k3 L m5 m1 m2
      rintro out1 na1 ⟨L1,n1,n2,n3,hnx⟩
      refine wpS_bind (wpS_elem2 (by lia) ?_)
      have L2:=L1.pushB ua ub (by lia) (by lia) hnx
      by_cases e3:(nb-1 == 1)=true
      ·rw[if_pos e3]
       simp only[beq_iff_eq] at e3
       exact wpS_pure ⟨sm.gal _,.inl ⟨_,_,rfl,L2.first ua ub hf (by lia) (by lia)⟩⟩
      rw[if_neg e3]
      simp only[beq_iff_eq] at e3
      have n4:1<nb-1:=by lia
      have n5:nb-1≤b.size:=by lia
      have n6:x+1+y+na1+(nb-1)+1≤a.size+b.size:=by lia
      clear hnx L1 n3 e3
      generalize out1.push (nth b (nb-1))=out2 at L2 ⊢
      generalize nb-1=nb2 at L2 n4 n5 n6 ⊢
      clear m3 m4
      refine wpS_bind (wpS_elem2 (by lia) (wpS_bind (wpS_gallop hc ((Same.kind (sm.gal _)).trans hk) (fun i hi=>gb _ (nth_mem (by lia))) (ga _ (nth_mem (by lia))) (by lia) (by lia)
       (bey_mono fun i j hij hj=>up_nth ub (by lia) (by lia)) fun q q1 q2 q3=>?_)))
      dsimp only
      have L3:=L2.partB (t:=q) ua ub (by lia) (by lia) (by lia) fun j hj hj2 _=>by
       have z:=bey_left.2.mp (q3 j hj hj2)
       rwa [Nat.zero_add] at z
      have hny:0<q→O.kle (key (nth b (q-1))) (key (nth a (na1-1))):=fun hh=>by
       have z:=KeyOrd.kle_of_klt (bey_left.1.mp (q2 (q-1) (by lia)))
       rwa [Nat.zero_add] at z
      generalize hbc:nb2-q=bc2
      refine wpS_if2 (x:=out2) (y:=nb2) (by rfl) (fun out3 nb3=>HiA key a b out3 na1 nb3∧1<nb3∧nb3≤b.size∧x+1+y+na1+nb3+1≤a.size+b.size∧(0<nb3→O.kle (key (nth b (nb3-1))) (key (nth a (na1-1))))) ?t2 (fun hq0 tl=>?p2) fun hq0=>?n2
      case n2 =>
       have hq:q=nb2:=by lia
       subst hq
       exact⟨L2,n4,n5,n6,hny⟩
      case p2 =>
       by_cases e4:(q == 1)=true
       ·rw[if_pos e4]
        simp only[beq_iff_eq] at e4
        exact wpS_pure ⟨sm.gal _,.inl ⟨_,_,rfl,L3.first ua ub hf (by lia) (by lia)⟩⟩
       rw[if_neg e4]
       by_cases e6:(q == 0)=true
       ·rw[if_pos e6]
        simp only[beq_iff_eq] at e6
        exact wpS_pure ⟨sm.gal _,.inl ⟨_,_,rfl,L3.done ua ub (.inr (by lia))⟩⟩
       rw[if_neg e6]
       simp only[beq_iff_eq] at e4 e6
       exact tl _ _ ⟨L3,by lia,by lia,by lia,hny⟩
      case t2 =>
       clear hny L3 hbc q1 q2 q3 L2 n4 n5 n6
       rintro out3 nb3 ⟨L3,n4,n5,n6,hny⟩
       refine wpS_bind (wpS_elem2 (by lia) ?_)
       have L4:=L3.pushA ua ub (by lia) (by lia) hny
       by_cases e5:(na1-1 == 0)=true
       ·rw[if_pos e5]
        simp only[beq_iff_eq] at e5
        exact wpS_pure ⟨sm.gal _,.inl ⟨_,_,rfl,L4.done ua ub (.inl (by lia))⟩⟩
       rw[if_neg e5]
       simp only[beq_iff_eq] at e5
       split
       ·exact wpS_pure ⟨sm.gal _,.inr ⟨_,_,_,_,_,_,rfl,L4,by lia,by lia,by lia,by lia,by lia⟩⟩
       ·exact wpS_pure ⟨sm.gal _,_,_,_,_,_,_,rfl,L4,by lia,by lia,by lia,by lia,by lia⟩
end
end Sg
namespace Sg
open PySem PyProof.Rows
section pure
variable {O:KeyOrd}{key:Keyed→O.α}
theorem put_get:∀ (m:List Keyed) (n c:Nat) (xs:Array Keyed),c+n+m.length≤xs.size→∀ i:Nat,
  ((m.zipIdx n).foldl (fun a (p:Keyed×Nat)=>a.setIfInBounds (c+p.2) p.1) xs)[i]?=if c+n≤i∧i<c+n+m.length then m[i-(c+n)]? else xs[i]?
 |[],n,c,xs,h,i=>by
  rw[if_neg (by simp)]
  rfl
 |p::m,n,c,xs,h,i=>by
  rw[List.length_cons] at h
  rw[List.zipIdx_cons,List.foldl_cons,put_get m (n+1) c _ (by rw[Array.size_setIfInBounds]; lia) i]
  by_cases h1:i=c+n
  ·subst h1
   rw[if_neg (by lia),if_pos (by simp),Nat.sub_self]
   rw[Array.getElem?_setIfInBounds_self_of_lt (by lia)]
   rfl
  ·by_cases h2:c+n≤i∧i<c+n+(p::m).length
   ·rw[if_pos h2]
    rw[List.length_cons] at h2
    rw[if_pos (by lia)]
    obtain⟨j,hj⟩:∃ j,i-(c+n)=j+1:=⟨i-(c+n)-1,by lia⟩
    rw[hj,List.getElem?_cons_succ]
    congr 1
    lia
   ·rw[if_neg h2]
    rw[List.length_cons] at h2
    rw[if_neg (by lia),Array.getElem?_setIfInBounds_ne (by lia)]
theorem put_list {m:List Keyed}{c:Nat}{xs:Array Keyed}(h:c+m.length≤xs.size) :
  (m.zipIdx.foldl (fun a (p:Keyed×Nat)=>a.setIfInBounds (c+p.2) p.1) xs).toList=xs.toList.take c++m++xs.toList.drop (c+m.length):=by
 apply List.ext_getElem?
 intro i
 rw[Array.getElem?_toList,put_get m 0 c xs (by lia) i,Nat.add_zero]
 have hl:(xs.toList.take c).length=c:=by rw[List.length_take,Array.length_toList]; lia
 by_cases h1:i<c
 ·rw[if_neg (by lia),List.append_assoc,List.getElem?_append_left (by lia),List.getElem?_take_of_lt h1,Array.getElem?_toList]
 ·by_cases h2:i<c+m.length
  ·rw[if_pos (by lia),List.append_assoc,List.getElem?_append_right (by lia),hl,List.getElem?_append_left (by lia)]
  ·rw[if_neg (by lia),List.getElem?_append_right (by rw[List.length_append,hl]; lia),List.length_append,hl,List.getElem?_drop,Array.getElem?_toList]
   congr 1
   lia
theorem up_seg {xs:Array Keyed}{c n:Nat}(u:Up key ((xs.toList.drop c).take n)){i j:Nat}(hij:i≤j)(hj:j<n)(hz:c+j<xs.size):O.kle (key (nth xs (c+i))) (key (nth xs (c+j))):=by
 have u':Up key (xs.extract c (c+n)).toList:=by rw[ext_part]; exact u
 have hs:j<(xs.extract c (c+n)).size:=by rw[Array.size_extract]; lia
 have e:∀ i,i<(xs.extract c (c+n)).size→nth (xs.extract c (c+n)) i=nth xs (c+i):=by
  intro i hi
  unfold nth
  rw[Array.getElem?_extract]
  rw[Array.size_extract] at hi
  rw[if_pos (by lia)]
 have h:=up_nth u' hij hs
 rw[e i (by lia),e j hs] at h
 exact h
theorem cut3 {l:List Keyed}{c m n:Nat}:(l.drop c).take (m+n)=(l.drop c).take m++(l.drop (c+m)).take n:=by
 rw[List.take_add,List.drop_drop]
end pure
section
variable {prog:Program}{w:World}{A:Around}{E:Value→Shared→Prop}{s:Shared}{O:KeyOrd}{key:Keyed→O.α}{G:Keyed→Prop}{kd:SortKind}{st:SortSt}
theorem wpS_set {σ:Type}{M:Model}{t t':σ}{Q:PUnit→σ→Prop}(h:Q ⟨⟩ t'):wpS M A E s (set t':StateT σ Sem PUnit) Q t:=by
 unfold wpS
 show wpAny M A (pure (PUnit.unit,t'):Sem (PUnit×σ)) _ E s
 exact wpAny_pure ⟨rfl,h⟩
theorem wpS_mergeAt {pre post:List (Nat×Nat×Nat)}{i sa na pw nb pw':Nat}{Q:Bool→SortSt→Prop}(hc:Asks prog w s O key G kd)(hk:kindOf st=kd)(hf:failedOf st=none)
  (hG:∀ x∈(arrOf st).toList,G x) (hp:pendingOf st=(pre++(sa,na,pw)::(sa+na,nb,pw')::post).toArray) (hi:i=pre.length) (ha:1≤na) (hb:1≤nb) (hz:sa+na+nb≤(arrOf st).size)
  (ua:Up key (((arrOf st).toList.drop sa).take na)) (ub:Up key (((arrOf st).toList.drop (sa+na)).take nb))
  (h:∀ st' M,kindOf st'=kd→failedOf st'=none→pendingOf st'=(pre++(sa,na+nb,pw)::post).toArray→(arrOf st').toList=(arrOf st).toList.take sa++M++(arrOf st).toList.drop (sa+na+nb) →
   M.Perm (((arrOf st).toList.drop sa).take (na+nb))→Up key M→Q true st'):wpS (model prog w) A E s (mergeAt' i) Q st:=by
 subst hi
 refine wpS_bind (wpS_get ?_)
 have e1:(pendingOf st)[pre.length]?=some (sa,na,pw):=by rw[hp]; simp
 have e2:(pendingOf st)[pre.length+1]?=some (sa+na,nb,pw'):=by
  rw[hp,List.getElem?_toArray,List.getElem?_append_right (by lia)]
  simp
 rw[e1,e2]
 dsimp only
 refine wpS_bind (wpS_set ?_)
 have hpend:((pendingOf st).setIfInBounds pre.length (sa,na+nb,pw)).eraseIdxIfInBounds (pre.length+1)=(pre++(sa,na+nb,pw)::post).toArray:=by
  rw[hp]
  apply Array.toList_inj.mp
  simp[Array.eraseIdxIfInBounds]
  rw[List.eraseIdx_append_of_length_le (by lia)]
  simp
 have gat:∀ j,j<(arrOf st).size→G (nth (arrOf st) j):=fun j hj=>hG _ (nth_mem hj)
 have l0:(arrOf st).toList.length=(arrOf st).size:=Array.length_toList
 refine wpS_bind (wpS_elem2 (xs:=arrOf st) (by lia) (wpS_bind (wpS_gallop (arr:=arrOf st) hc hk (fun i hi=>gat _ (by lia)) (gat _ (by lia)) (by lia) (by lia)
  (bey_mono fun i j hij hj=>up_seg ua hij hj (by lia)) fun k k1 k2 k3=>?_)))
 dsimp only
 have hall:(arrOf st).toList=(arrOf st).toList.take sa++((arrOf st).toList.drop sa).take (na+nb)++(arrOf st).toList.drop (sa+na+nb):=by
  rw[List.append_assoc,Nat.add_assoc sa na nb,← List.drop_drop,List.take_append_drop,List.take_append_drop]
 have hA:∀ j,j<k→O.kle (key (nth (arrOf st) (sa+j))) (key (nth (arrOf st) (sa+na))):=fun j hj=>bey_right.1.mp (k2 j hj)
 have hB0:∀ j,j<nb→O.kle (key (nth (arrOf st) (sa+na))) (key (nth (arrOf st) (sa+na+j))):=fun j hj=>by
  have z:=up_seg (i:=0) ub (Nat.zero_le j) hj (by lia)
  rwa [Nat.add_zero] at z
 by_cases n0:(na-k == 0)=true
 ·rw[if_pos n0]
  simp only[beq_iff_eq] at n0
  refine wpS_pure (h _ (((arrOf st).toList.drop sa).take (na+nb)) hk hf hpend hall (List.Perm.refl _) ?_)
  rw[cut3]
  refine ua.app ub fun x hx y hy=>?_
  obtain⟨j,hj,hj2,rfl⟩:=mem_part hx
  obtain⟨j',hj',hj2',rfl⟩:=mem_part hy
  exact KeyOrd.kle_trans (hA j (by lia)) (hB0 j' hj')
 rw[if_neg n0]
 simp only[beq_iff_eq] at n0
 refine wpS_bind (wpS_elem2 (xs:=arrOf st) (by lia) (wpS_bind (wpS_gallop (arr:=arrOf st) hc hk (fun i hi=>gat _ (by lia)) (gat _ (by lia)) (by lia) (by lia)
  (bey_mono fun i j hij hj=>up_seg ub hij hj (by lia)) fun q q1 q2 q3=>?_)))
 dsimp only
 have elast:sa+k+(na-k)-1=sa+(na-1):=by lia
 rw[elast] at q2 q3
 have hlt:O.klt (key (nth (arrOf st) (sa+na))) (key (nth (arrOf st) (sa+(na-1)))):=bey_right.2.mp (k3 (na-1) (by lia) (by lia))
 have hq:q≠0:=by
  intro e
  subst e
  have z:=bey_left.2.mp (q3 0 (Nat.le_refl _) (by lia))
  rw[Nat.add_zero] at z
  exact KeyOrd.not_klt_of_kle z hlt
 rw[if_neg (by simpa using hq)]
 have ex:(arrOf st).extract (sa+k) (sa+na)=(arrOf st).extract (sa+k) (sa+k+(na-k)):=by congr 1; lia
 have hx:((arrOf st).extract (sa+k) (sa+na)).toList=((arrOf st).toList.drop (sa+k)).take (na-k):=by rw[ex,ext_part]
 have hy:((arrOf st).extract (sa+na) (sa+na+q)).toList=((arrOf st).toList.drop (sa+na)).take q:=ext_part
 have sx:((arrOf st).extract (sa+k) (sa+na)).size=na-k:=by rw[Array.size_extract]; lia
 have sy:((arrOf st).extract (sa+na) (sa+na+q)).size=q:=by rw[Array.size_extract]; lia
 have nx:∀ j,j<na-k→nth ((arrOf st).extract (sa+k) (sa+na)) j=nth (arrOf st) (sa+k+j):=by
  intro j hj
  unfold nth
  rw[Array.getElem?_extract,if_pos (by lia)]
 have ny:∀ j,j<q→nth ((arrOf st).extract (sa+na) (sa+na+q)) j=nth (arrOf st) (sa+na+j):=by
  intro j hj
  unfold nth
  rw[Array.getElem?_extract,if_pos (by lia)]
 have eA:((arrOf st).toList.drop sa).take na=((arrOf st).toList.drop sa).take k++((arrOf st).toList.drop (sa+k)).take (na-k):=by
  rw[← cut3]; congr 1; lia
 have eB:((arrOf st).toList.drop (sa+na)).take nb=((arrOf st).toList.drop (sa+na)).take q++((arrOf st).toList.drop (sa+na+q)).take (nb-q):=by
  rw[← cut3]; congr 1; lia
 rw[eA] at ua
 rw[eB] at ub
 obtain⟨uA1,uA2,bA⟩:=List.pairwise_append.mp ua
 obtain⟨uB1,uB2,bB⟩:=List.pairwise_append.mp ub
 have uX:Up key ((arrOf st).extract (sa+k) (sa+na)).toList:=by rw[hx]; exact uA2
 have uY:Up key ((arrOf st).extract (sa+na) (sa+na+q)).toList:=by rw[hy]; exact uB1
 have gX:∀ z∈((arrOf st).extract (sa+k) (sa+na)).toList,G z:=by
  rw[hx]
  exact fun z hz=>hG z (List.mem_of_mem_drop (List.mem_of_mem_take hz))
 have gY:∀ z∈((arrOf st).extract (sa+na) (sa+na+q)).toList,G z:=by
  rw[hy]
  exact fun z hz=>hG z (List.mem_of_mem_drop (List.mem_of_mem_take hz))
 have f0:O.kle (key (nth ((arrOf st).extract (sa+na) (sa+na+q)) 0)) (key (nth ((arrOf st).extract (sa+k) (sa+na)) 0)):=by
  rw[ny 0 (by lia),nx 0 (by lia),Nat.add_zero,Nat.add_zero]
  exact KeyOrd.kle_of_klt (bey_right.2.mp (k3 k (Nat.le_refl _) (by lia)))
 have fl:∀ z∈((arrOf st).extract (sa+na) (sa+na+q)).toList,O.kle (key z) (key (nth ((arrOf st).extract (sa+k) (sa+na)) (((arrOf st).extract (sa+k) (sa+na)).size-1))):=by
  rw[hy,sx,nx (na-k-1) (by lia),show sa+k+(na-k-1)=sa+(na-1) by lia]
  intro z hz'
  obtain⟨j,hj,hj2,rfl⟩:=mem_part hz'
  exact KeyOrd.kle_of_klt (bey_left.1.mp (q2 j hj))
 have fin:∀ (R:Array Keyed) (st':SortSt),Fine key ((arrOf st).extract (sa+k) (sa+na)) ((arrOf st).extract (sa+na) (sa+na+q)) R →
   Same (SortSt.mk' (kindOf st) (arrOf st) (((pendingOf st).setIfInBounds pre.length (sa,na+nb,pw)).eraseIdxIfInBounds (pre.length+1)) (gallopOf st) (failedOf st)) st' →
   Q true (SortSt.mk' (kindOf st') (R.toList.zipIdx.foldl (fun a (p:Keyed×Nat)=>a.setIfInBounds (sa+k+p.2) p.1) (arrOf st')) (pendingOf st') (gallopOf st') (failedOf st')):=by
  rintro R st' ⟨pR,uR⟩ ⟨g,rfl⟩
  rw[hx,hy] at pR
  have lR:R.toList.length=na-k+q:=by
   rw[pR.length_eq,List.length_append,List.length_take,List.length_take,List.length_drop,List.length_drop,l0]
   lia
  refine h _ (((arrOf st).toList.drop sa).take k++R.toList++((arrOf st).toList.drop (sa+na+q)).take (nb-q)) hk hf hpend ?_ ?_ ?_
  ·show (R.toList.zipIdx.foldl (fun a (p:Keyed×Nat)=>a.setIfInBounds (sa+k+p.2) p.1) (arrOf st)).toList=_
   rw[put_list (by rw[lR]; lia),lR,List.take_add]
   have ed:(arrOf st).toList.drop (sa+k+(na-k+q))=((arrOf st).toList.drop (sa+na+q)).take (nb-q)++(arrOf st).toList.drop (sa+na+nb):=by
    rw[show sa+k+(na-k+q)=sa+na+q by lia,show sa+na+nb=sa+na+q+(nb-q) by lia,← List.drop_drop (i:=nb-q),List.take_append_drop]
   rw[ed]
   simp only[List.append_assoc]
  ·rw[cut3,eA,eB]
   simp only[List.append_assoc]
   refine List.Perm.append_left _ ?_
   rw[← List.append_assoc]
   exact List.Perm.append_right _ pR
  ·have mR:∀ z∈R.toList,z∈((arrOf st).toList.drop (sa+k)).take (na-k)∨z∈((arrOf st).toList.drop (sa+na)).take q:=fun z hz'=>List.mem_append.mp (pR.mem_iff.mp hz')
   have b1:Below key (((arrOf st).toList.drop sa).take k) R.toList:=by
    intro x hx' y hy'
    rcases mR y hy' with m | m
    ·exact bA x hx' y m
    ·obtain⟨j,hj,hj2,rfl⟩:=mem_part hx'
     obtain⟨j',hj',hj2',rfl⟩:=mem_part m
     exact KeyOrd.kle_trans (hA j hj) (hB0 j' (by lia))
   refine (Up.app (Up.app uA1 uR b1) uB2 (Below.app ?_ ?_))
   ·intro x hx' y hy'
    obtain⟨j,hj,hj2,rfl⟩:=mem_part hx'
    obtain⟨j',hj',hj2',rfl⟩:=mem_part hy'
    have z:=hB0 (q+j') (by lia)
    rw[← Nat.add_assoc] at z
    exact KeyOrd.kle_trans (hA j hj) z
   ·intro x hx' y hy'
    rcases mR x hx' with m | m
    ·obtain⟨j,hj,hj2,rfl⟩:=mem_part m
     obtain⟨j',hj',hj2',rfl⟩:=mem_part hy'
     have z1:=up_seg (xs:=arrOf st) (c:=sa) (n:=na) (i:=k+j) (j:=na-1) (by rw[eA]; exact ua) (by lia) (by lia) (by lia)
     rw[← Nat.add_assoc] at z1
     have z2:=bey_left.2.mp (q3 (q+j') (by lia) (by lia))
     rw[← Nat.add_assoc] at z2
     exact KeyOrd.kle_trans z1 z2
    ·exact bB x m y hy'
 have done:∀ (R:Array Keyed) (st':SortSt),Fine key ((arrOf st).extract (sa+k) (sa+na)) ((arrOf st).extract (sa+na) (sa+na+q)) R →
   Same (SortSt.mk' (kindOf st) (arrOf st) (((pendingOf st).setIfInBounds pre.length (sa,na+nb,pw)).eraseIdxIfInBounds (pre.length+1)) (gallopOf st) (failedOf st)) st'→failedOf st'=none:=by
  rintro R st'-⟨g,rfl⟩
  exact hf
 split
 ·refine wpS_bind (wpS_mergeLo (a:=(arrOf st).extract (sa+k) (sa+na)) (b:=(arrOf st).extract (sa+na) (sa+na+q)) hc hk gX gY uX uY (by lia) (by lia) f0 fl fun R st' hR hS=>?_)
  refine wpS_bind (wpS_modify (wpS_bind (wpS_get (wpS_pure ?_))))
  have e:=done R st' hR hS
  have f:=fin R st' hR hS
  have e3:(failedOf st').isNone=true:=by rw[e]; rfl
  show Q (failedOf st').isNone _
  rw[e3]
  exact f
 ·refine wpS_bind (wpS_mergeHi (a:=(arrOf st).extract (sa+k) (sa+na)) (b:=(arrOf st).extract (sa+na) (sa+na+q)) hc hk gX gY uX uY (by lia) (by lia) f0 fl fun R st' hR hS=>?_)
  refine wpS_bind (wpS_modify (wpS_bind (wpS_get (wpS_pure ?_))))
  have e:=done R st' hR hS
  have f:=fin R st' hR hS
  have e3:(failedOf st').isNone=true:=by rw[e]; rfl
  show Q (failedOf st').isNone _
  rw[e3]
  exact f
end
end Sg
namespace Sg
open PySem PyProof.Rows
section pure
variable {O:KeyOrd}{key:Keyed→O.α}{xs:Array Keyed}
def SegN (key:Keyed→O.α)(xs:Array Keyed)(i j:Nat):Prop:=∀ p q,i≤p→p≤q→q<j→O.kle (key (nth xs p)) (key (nth xs q))
def NInc (key:Keyed→O.α)(xs:Array Keyed)(i j:Nat):Prop:=∀ p q,i≤p→p≤q→q<j→O.kle (key (nth xs q)) (key (nth xs p))
theorem nth_congr {xs ys:Array Keyed}{i j:Nat}(h:xs[i]?=ys[j]?):nth xs i=nth ys j:=by unfold nth; rw[h]
theorem nth_bubble {src d:Nat}(hs:src<xs.size)(hd:d≤src)(k:Nat) :
  nth (bubble xs src d) k=if k=src-d then nth xs src else if src-d<k∧k≤src then nth xs (k-1) else nth xs k:=by
 have e:=getElem?_bubble hs d hd k
 by_cases h1:k=src-d
 ·rw[if_pos h1] at e
  rw[if_pos h1]
  exact nth_congr e
 ·rw[if_neg h1] at e
  rw[if_neg h1]
  by_cases h2:src-d<k∧k≤src
  ·rw[if_pos h2] at e
   rw[if_pos h2]
   exact nth_congr e
  ·rw[if_neg h2] at e
   rw[if_neg h2]
   exact nth_congr e
theorem nth_mirror {i j:Nat}(hj:j≤xs.size)(k:Nat):nth (mirror xs i j ((j-i) / 2)) k=if i≤k∧k<j then nth xs (i+j-1-k) else nth xs k:=by
 have e:=getElem?_mirror_all (i:=i) hj k
 by_cases h1:i≤k∧k<j
 ·rw[if_pos h1] at e
  rw[if_pos h1]
  exact nth_congr e
 ·rw[if_neg h1] at e
  rw[if_neg h1]
  exact nth_congr e
theorem key_mirror_equal {i j:Nat}(hj:j≤xs.size)(he:∀ k,i≤k→k<j→key (nth xs k)=key (nth xs (j-1)))(k:Nat):key (nth (mirror xs i j ((j-i) / 2)) k)=key (nth xs k):=by
 rw[nth_mirror hj]
 split
 ·rw[he _ (by lia) (by lia),he k (by lia) (by lia)]
 ·rfl
theorem SegN.more {i j:Nat}(h:SegN key xs i (i+j))(hj:1≤j)(hx:O.kle (key (nth xs (i+j-1))) (key (nth xs (i+j)))):SegN key xs i (i+(j+1)):=by
 intro p q h1 h2 h3
 by_cases hq:q<i+j
 ·exact h p q h1 h2 hq
 ·have e:q=i+j:=by lia
  subst e
  by_cases hp:p=i+j
  ·rw[hp]; exact KeyOrd.kle_refl _
  ·exact KeyOrd.kle_trans (h p (i+j-1) h1 (by lia) (by lia)) hx
theorem NInc.more {i j:Nat}(h:NInc key xs i (i+j))(hj:1≤j)(hx:O.kle (key (nth xs (i+j))) (key (nth xs (i+j-1)))):NInc key xs i (i+(j+1)):=by
 intro p q h1 h2 h3
 by_cases hq:q<i+j
 ·exact h p q h1 h2 hq
 ·have e:q=i+j:=by lia
  subst e
  by_cases hp:p=i+j
  ·rw[hp]; exact KeyOrd.kle_refl _
  ·exact KeyOrd.kle_trans hx (h p (i+j-1) h1 (by lia) (by lia))
theorem NInc.congr {ys:Array Keyed}{i j:Nat}(h:NInc key xs i j)(e:∀ p,key (nth xs p)=key (nth ys p)):NInc key ys i j:=by
 intro p q h1 h2 h3
 rw[← e,← e]
 exact h p q h1 h2 h3
theorem low_mirror {i j lo:Nat}(h:lo≤i)(k:Nat)(hk:k<lo):(mirror xs i j ((j-i) / 2))[k]?=xs[k]?:=by
 unfold mirror
 have go:∀ (l:List Nat) (ys:Array Keyed),(∀ r∈l,r<(j-i) / 2)→(l.foldl (fun a r=>a.swapIfInBounds (i+r) (j-1-r)) ys)[k]?=ys[k]?:=by
  intro l
  induction l with
  |nil=>intro ys _; rfl
  |cons r l ih =>
   intro ys hl
   have hr:=hl r List.mem_cons_self
   rw[List.foldl_cons,ih _ fun r hr=>hl r (List.mem_cons_of_mem _ hr)]
   rw[Array.swapIfInBounds_def]
   split
   ·split
    ·rw[Array.getElem?_swap,if_neg (by lia),if_neg (by lia)]
    ·rfl
   ·rfl
 exact go _ xs fun r hr=>List.mem_range.mp hr
end pure
structure Nc (a₀:Array Keyed)(kd:SortKind)(P:Array (Nat×Nat×Nat))(lo:Nat)(b₀:Array Keyed)(st:SortSt):Prop where
 perm:(arrOf st).Perm a₀
 kind:kindOf st=kd
 failed:failedOf st=none
 pend:pendingOf st=P
 low:∀ i,i<lo→(arrOf st)[i]?=b₀[i]?
section
variable {prog:Program}{w:World}{A:Around}{E:Value→Shared→Prop}{s:Shared}{O:KeyOrd}{key:Keyed→O.α}{G:Keyed→Prop}{kd:SortKind}{st:SortSt}
 {a₀ b₀:Array Keyed} {P:Array (Nat×Nat×Nat)} {lo:Nat}
theorem Nc.size (h:Nc a₀ kd P lo b₀ st):(arrOf st).size=a₀.size:=h.perm.size_eq
theorem Nc.mem (h:Nc a₀ kd P lo b₀ st)(h0:∀ x∈a₀.toList,G x){i:Nat}(hi:i<a₀.size):G (nth (arrOf st) i) :=
 h0 _ ((Array.perm_iff_toList_perm.mp h.perm).mem_iff.mp (nth_mem (by rw[h.size]; exact hi)))
theorem Nc.rev {i j:Nat}(h:Nc a₀ kd P lo b₀ st)(hi:lo≤i):Nc a₀ kd P lo b₀ (setArr st (mirror (arrOf st) i j ((j-i) / 2))) :=
 ⟨(mirror_perm _ _ _ _).trans h.perm,h.kind,h.failed,h.pend,fun k hk=>(low_mirror hi k hk).trans (h.low k hk)⟩
theorem wpS_ltN {i j:Nat}{Q:Option Bool→SortSt→Prop}(hc:Asks prog w s O key G kd)(h0:∀ x∈a₀.toList,G x)(hB:Nc a₀ kd P lo b₀ st)(hi:i<a₀.size)(hj:j<a₀.size)
  (h:Q (some (O.blt (key (nth (arrOf st) i)) (key (nth (arrOf st) j)))) st):wpS (model prog w) A E s (ltAt' i j) Q st :=
 wpS_ltAt2 hc hB.kind (by rw[hB.size]; exact hi) (by rw[hB.size]; exact hj) (hB.mem h0 hi) (hB.mem h0 hj) h
theorem wpS_rev {i j:Nat}{Q:Unit→SortSt→Prop}(h:Q () (setArr st (mirror (arrOf st) i j ((j-i) / 2)))):wpS (model prog w) A E s (reverseSlice' i j) Q st:=by
 rw[reverseSlice'_eq]
 exact wpS_modify h
theorem wpS_insert {n ok:Nat}{Q:Bool→SortSt→Prop}(hc:Asks prog w s O key G kd)(h0:∀ x∈a₀.toList,G x)(hn:lo+n≤a₀.size)(hok:ok≤n)(hB:Nc a₀ kd P lo b₀ st)(hs:SegN key (arrOf st) lo (lo+ok))
  (h:∀ st',Nc a₀ kd P lo b₀ st'→SegN key (arrOf st') lo (lo+n)→Q true st'):wpS (model prog w) A E s (binarySort' lo n ok) Q st:=by
 rw[binarySort'_eq]
 refine wpS_bind (wpS_mono (wpS_forRange (I:=fun k c st'=>c=(none,())∧Nc a₀ kd P lo b₀ st'∧SegN key (arrOf st') lo (lo+min k n))
  (Q:=fun c st'=>c=(none,())∧Nc a₀ kd P lo b₀ st'∧SegN key (arrOf st') lo (lo+n)) ?stp ?fi ?ini) ?po)
 case po =>
  rintro c st' ⟨rfl,B,sg⟩
  exact wpS_pure (h st' B sg)
 case ini =>
  refine⟨rfl,hB,fun p q h1 h2 h3=>?_⟩
  by_cases z:ok=0
  ·have e:p=q:=by lia
   rw[e]
   exact KeyOrd.kle_refl _
  ·exact hs p q h1 h2 (by lia)
 case fi =>
  rintro c st' ⟨hc',B,sg⟩
  refine⟨hc',B,?_⟩
  rwa [show min (max (max ok 1) n) n=n by lia] at sg
 case stp =>
  rintro k c st' k1 k2 ⟨rfl,B,sg⟩
  rw[show min k n=k by lia] at sg
  dsimp only
  refine wpS_bind (wpS_mono (wpS_forRange (I:=fun x c st''=>st''=st'∧∃ l r,c=(none,l,r)∧l≤r∧r≤k∧r-l≤k-x ∧
    (∀ i,i<l→O.kle (key (nth (arrOf st') (lo+i))) (key (nth (arrOf st') (lo+k))))∧(∀ i,r≤i→i<k→O.kle (key (nth (arrOf st') (lo+k))) (key (nth (arrOf st') (lo+i)))))
   (Q:=fun c st''=>st''=st'∧∃ l r,c=(none,l,r)∧l≤k ∧
    (∀ i,i<l→O.kle (key (nth (arrOf st') (lo+i))) (key (nth (arrOf st') (lo+k))))∧(∀ i,l≤i→i<k→O.kle (key (nth (arrOf st') (lo+k))) (key (nth (arrOf st') (lo+i))))) ?is ?ifi ?ii) ?ip)
  case ii=>exact⟨rfl,0,k,rfl,by lia,by lia,by lia,fun i hi=>by lia,fun i h1 h2=>by lia⟩
  case ifi =>
   rintro c st'' ⟨e,l,r,rfl,g1,g2,g3,g4,g5⟩
   have z:l=r:=by lia
   subst z
   exact⟨e,l,l,rfl,g2,g4,g5⟩
  case is =>
   rintro x c st''-hx ⟨rfl,l,r,rfl,g1,g2,g3,g4,g5⟩
   dsimp only
   by_cases hge:l ≥ r
   ·rw[if_pos hge]
    have z:l=r:=by lia
    subst z
    exact wpS_pure ⟨rfl,l,l,rfl,g2,g4,g5⟩
   ·rw[if_neg hge]
    refine wpS_bind (wpS_ltN hc h0 B (by lia) (by lia) ?_)
    cases hw:O.blt (key (nth (arrOf st'') (lo+k))) (key (nth (arrOf st'') (lo+(l+r) / 2))) with
    |true=>exact wpS_pure ⟨rfl,l,(l+r) / 2,rfl,by lia,by lia,by lia,g4,fun i z1 z2=>KeyOrd.kle_trans (KeyOrd.kle_of_klt hw) (sg _ _ (by lia) (by lia) (by lia))⟩
    |false=>exact wpS_pure ⟨rfl,(l+r) / 2+1,r,rfl,by lia,by lia,by lia,fun i z1=>KeyOrd.kle_trans (sg (lo+i) (lo+(l+r) / 2) (by lia) (by lia) (by lia)) hw,g5⟩
  case ip =>
   rintro c st'' ⟨rfl,l,r,rfl,g2,g4,g5⟩
   dsimp only
   refine wpS_bind ?_
   rw[moveDown'_eq]
   have hz:lo+k<(arrOf st'').size:=by rw[B.size]; lia
   refine wpS_modify (wpS_pure ⟨rfl,⟨(bubble_perm _ _ _).trans B.perm,B.kind,B.failed,B.pend,fun i hi=>?_⟩,?_⟩)
   ·show (bubble (arrOf st'') (lo+k) (lo+k-(lo+l)))[i]?=_
    rw[getElem?_bubble hz _ (by lia),if_neg (by lia),if_neg (by lia)]
    exact B.low i hi
   ·rw[show min (k+1) n=k+1 by lia]
    intro p q h1 h2 h3
    show O.kle (key (nth (bubble (arrOf st'') (lo+k) (lo+k-(lo+l))) p)) (key (nth (bubble (arrOf st'') (lo+k) (lo+k-(lo+l))) q))
    rw[nth_bubble hz (by lia),nth_bubble hz (by lia),show lo+k-(lo+k-(lo+l))=lo+l by lia]
    have a4:∀ i,lo≤i→i<lo+l→O.kle (key (nth (arrOf st'') i)) (key (nth (arrOf st'') (lo+k))):=fun i z1 z2=>by
     have z:=g4 (i-lo) (by lia)
     rwa [show lo+(i-lo)=i by lia] at z
    have a5:∀ i,lo+l≤i→i<lo+k→O.kle (key (nth (arrOf st'') (lo+k))) (key (nth (arrOf st'') i)):=fun i z1 z2=>by
     have z:=g5 (i-lo) (by lia) (by lia)
     rwa [show lo+(i-lo)=i by lia] at z
    repeat' split
    all_goals first
     |(exfalso; lia)
     |exact KeyOrd.kle_refl _
     |exact a4 _ (by lia) (by lia)
     |exact a5 _ (by lia) (by lia)
     |exact sg _ _ (by lia) (by lia) (by lia)
theorem wpS_if0 {β:Type}{c:Prop}[Decidable c]{p q:StateT SortSt Sem β}{M:Model}{Q:β→SortSt→Prop}{st:SortSt}(Z:SortSt→Prop)(tl:∀ u,Z u→wpS M A E s q Q u)(h1:c→(∀ u,Z u→wpS M A E s q Q u)→wpS M A E s p Q st)(h2:¬ c→Z st):wpS M A E s (if c then p else q) Q st:=by
 by_cases h:c
 ·rw[if_pos h]; exact h1 h tl
 ·rw[if_neg h]; exact tl _ (h2 h)
theorem wpS_run {nrem:Nat}{Q:Option Nat→SortSt→Prop}(hc:Asks prog w s O key G kd)(h0:∀ x∈a₀.toList,G x)(hn:lo+nrem≤a₀.size)(h1:1≤nrem)(hB:Nc a₀ kd P lo b₀ st)
  (h:∀ m st',Nc a₀ kd P lo b₀ st'→1≤m→m≤nrem→SegN key (arrOf st') lo (lo+m)→Q (some m) st'):wpS (model prog w) A E s (countRun' lo nrem) Q st:=by
 rw[countRun'_eq]
 refine wpS_bind (wpS_mono (wpS_forRange (I:=fun x c st'=>st'=st∧c=(none,x)∧SegN key (arrOf st) lo (lo+x))
  (Q:=fun c st'=>st'=st∧∃ n,c=(none,n)∧1≤n∧n≤nrem∧SegN key (arrOf st) lo (lo+n)∧(n=nrem∨O.klt (key (nth (arrOf st) (lo+n))) (key (nth (arrOf st) (lo+n-1))))) ?is ?fi ?ini) ?po)
 case ini=>exact⟨rfl,rfl,fun p q h1 h2 h3=>by rw[show p=q by lia]; exact KeyOrd.kle_refl _⟩
 case fi =>
  rintro c st' ⟨e,rfl,sg⟩
  have e2:max 1 nrem=nrem:=by lia
  rw[e2] at sg ⊢
  exact⟨e,nrem,rfl,h1,Nat.le_refl _,sg,.inl rfl⟩
 case is =>
  rintro x c st' hx1 hx2 ⟨e,rfl,sg⟩
  subst e
  dsimp only
  refine wpS_bind (wpS_ltN hc h0 hB (by lia) (by lia) ?_)
  cases hw:O.blt (key (nth (arrOf st') (lo+x))) (key (nth (arrOf st') (lo+x-1))) with
  |true=>exact wpS_pure ⟨rfl,x,rfl,hx1,by lia,sg,.inr hw⟩
  |false=>exact wpS_pure ⟨rfl,rfl,sg.more (by lia) hw⟩
 case po =>
  rintro c st' ⟨e,n,rfl,n1,n2,sg,ho⟩
  subst e
  dsimp only
  by_cases hnn:(n == nrem)=true
  ·rw[if_pos hnn]
   exact wpS_pure (h n st' hB n1 n2 sg)
  rw[if_neg hnn]
  simp only[beq_iff_eq] at hnn
  have hlt:=ho.resolve_left hnn
  have hzn:lo+n≤(arrOf st').size:=by rw[hB.size]; lia
  refine wpS_if0 (fun st1=>Nc a₀ kd P lo b₀ st1∧NInc key (arrOf st1) lo (lo+(n+1))) ?tl (fun hgt tl=>?pp) fun hgt=>⟨hB,?nn⟩
  case nn =>
   intro p q g1 g2 g3
   by_cases hpq:p=q
   ·rw[hpq]; exact KeyOrd.kle_refl _
   ·have e1:p=lo+n-1:=by lia
    have e2:q=lo+n:=by lia
    rw[e1,e2]
    exact KeyOrd.kle_of_klt hlt
  case pp =>
   refine wpS_bind (wpS_ltN hc h0 hB (by lia) (by lia) ?_)
   cases hw:O.blt (key (nth (arrOf st') lo)) (key (nth (arrOf st') (lo+n-1)))
   case true=>exact wpS_pure (h n st' hB n1 n2 sg)
   dsimp only
   rw[if_neg (by simp)]
   refine wpS_bind (wpS_rev ?_)
   have hall:∀ k,lo≤k→k<lo+n→key (nth (arrOf st') k)=key (nth (arrOf st') (lo+n-1)):=by
    intro k g1 g2
    exact KeyOrd.kle_antisymm (sg k (lo+n-1) g1 (by lia) (by lia)) (KeyOrd.kle_trans hw (sg lo k (Nat.le_refl _) g1 g2))
   have B1:=hB.rev (i:=lo) (j:=lo+n) (Nat.le_refl _)
   have N1:NInc key (arrOf (setArr st' (mirror (arrOf st') lo (lo+n) ((lo+n-lo) / 2)))) lo (lo+(n+1)):=by
    refine NInc.congr (xs:=arrOf st') ?_ fun p=>(key_mirror_equal hzn hall p).symm
    intro p q g1 g2 g3
    by_cases hq:q<lo+n
    ·rw[hall p g1 (by lia),hall q (by lia) hq]
     exact KeyOrd.kle_refl _
    ·have e:q=lo+n:=by lia
     subst e
     by_cases hp:p=lo+n
     ·rw[hp]; exact KeyOrd.kle_refl _
     ·rw[hall p g1 (by lia)]
      exact KeyOrd.kle_of_klt hlt
   exact tl _ ⟨B1,N1⟩
  case tl =>
   clear hB hlt sg hzn
   rintro st1 ⟨B1,N1⟩
   refine wpS_bind (wpS_lift (wpAny_rule ⟨rfl,?_⟩))
   refine wpS_bind (wpS_mono (wpS_forRange (I:=fun x c st'=>∃ z,c=(none,x,z)∧Nc a₀ kd P lo b₀ st'∧NInc key (arrOf st') lo (lo+x)∧z+1≤x∧∀ i,lo+x-(z+1)≤i→i<lo+x→key (nth (arrOf st') i)=key (nth (arrOf st') (lo+x-1)))
    (Q:=fun c st'=>∃ m z,c=(none,m,z)∧Nc a₀ kd P lo b₀ st'∧NInc key (arrOf st') lo (lo+m)∧z+1≤m∧1≤m∧m≤nrem∧∀ i,lo+m-(z+1)≤i→i<lo+m→key (nth (arrOf st') i)=key (nth (arrOf st') (lo+m-1))) ?is2 ?fi2 ?in2) ?po2)
   case in2=>exact⟨0,rfl,B1,N1,by lia,fun i h1 h2=>by rw[show i=lo+(n+1)-1 by lia]⟩
   case fi2 =>
    rintro c st' ⟨z,rfl,B2,N2,h2,h3⟩
    have e2:max (n+1) nrem=nrem:=by lia
    rw[e2] at N2 h2 h3 ⊢
    exact⟨nrem,z,rfl,B2,N2,h2,h1,Nat.le_refl _,h3⟩
   case is2 =>
    rintro x c st' hx1 hx2 ⟨z,rfl,B2,N2,g2,g3⟩
    dsimp only
    have hz2:lo+x≤(arrOf st').size:=by rw[B2.size]; lia
    refine wpS_bind (wpS_ltN hc h0 B2 (by lia) (by lia) ?_)
    cases hw:O.blt (key (nth (arrOf st') (lo+x))) (key (nth (arrOf st') (lo+x-1))) with
    |true =>
     dsimp only
     rw[if_pos rfl]
     by_cases hz0:z > 0
     ·rw[if_pos hz0]
      refine wpS_bind (wpS_rev (wpS_pure ⟨0,rfl,B2.rev (by lia),?_,by lia,fun i h1 h2=>by rw[show i=lo+(x+1)-1 by lia]⟩))
      refine NInc.congr (N2.more (by lia) (KeyOrd.kle_of_klt hw)) fun p=>?_
      exact (key_mirror_equal hz2 g3 p).symm
     ·rw[if_neg hz0]
      exact wpS_pure ⟨0,rfl,B2,N2.more (by lia) (KeyOrd.kle_of_klt hw),by lia,fun i h1 h2=>by rw[show i=lo+(x+1)-1 by lia]⟩
    |false =>
     dsimp only
     rw[if_neg (by simp)]
     refine wpS_bind (wpS_ltN hc h0 B2 (by lia) (by lia) ?_)
     cases hv:O.blt (key (nth (arrOf st') (lo+x-1))) (key (nth (arrOf st') (lo+x))) with
     |true=>exact wpS_pure ⟨x,z,rfl,B2,N2,g2,by lia,by lia,g3⟩
     |false =>
      have heq:key (nth (arrOf st') (lo+x))=key (nth (arrOf st') (lo+x-1)):=KeyOrd.kle_antisymm hv hw
      refine wpS_pure ⟨z+1,rfl,B2,N2.more (by lia) hv,by lia,fun i h1 h2=>?_⟩
      rw[show lo+(x+1)-1=lo+x by lia]
      by_cases hi:i=lo+x
      ·rw[hi]
      ·rw[heq]
       exact g3 i (by lia) (by lia)
   case po2 =>
    rintro c st2 ⟨m,z,rfl,B2,N2,g2,hm1,hm2,g3⟩
    dsimp only
    have hz2:lo+m≤(arrOf st2).size:=by rw[B2.size]; lia
    refine wpS_if0 (fun st4=>Nc a₀ kd P lo b₀ st4∧NInc key (arrOf st4) lo (lo+m)) ?tl2 (fun hz0 tl=>?pp2) fun hz0=>⟨B2,N2⟩
    case pp2 =>
     refine wpS_bind (wpS_rev ?_)
     exact tl _ ⟨B2.rev (i:=lo+m-(z+1)) (j:=lo+m) (by lia),NInc.congr N2 fun p=>(key_mirror_equal hz2 g3 p).symm⟩
    case tl2 =>
     clear g3 hz2 B2 N2
     rintro st4 ⟨B4,N4⟩
     refine wpS_bind (wpS_rev ?_)
     have hB3:=B4.rev (i:=lo) (j:=lo+m) (Nat.le_refl _)
     have hz3:lo+m≤(arrOf st4).size:=by rw[B4.size]; lia
     refine wpS_bind (wpS_mono (wpS_forRange (I:=fun x c st'=>st'=setArr st4 (mirror (arrOf st4) lo (lo+m) ((lo+m-lo) / 2))∧c=(none,x)∧SegN key (arrOf st') lo (lo+x))
      (Q:=fun c st'=>st'=setArr st4 (mirror (arrOf st4) lo (lo+m) ((lo+m-lo) / 2))∧∃ y,c=(none,y)∧m≤y∧y≤nrem∧SegN key (arrOf st') lo (lo+y)) ?is3 ?fi3 ?in3) ?po3)
     case in3 =>
      refine⟨rfl,rfl,fun p q h1 h2 h3=>?_⟩
      show O.kle (key (nth (mirror (arrOf st4) lo (lo+m) ((lo+m-lo) / 2)) p)) (key (nth (mirror (arrOf st4) lo (lo+m) ((lo+m-lo) / 2)) q))
      rw[nth_mirror hz3,nth_mirror hz3,if_pos (by lia),if_pos (by lia)]
      exact N4 _ _ (by lia) (by lia) (by lia)
     case fi3 =>
      rintro c st' ⟨e,rfl,sg⟩
      have e2:max m nrem=nrem:=by lia
      rw[e2] at sg ⊢
      exact⟨e,nrem,rfl,hm2,Nat.le_refl _,sg⟩
     case is3 =>
      rintro x c st' hx1 hx2 ⟨e,rfl,sg⟩
      subst e
      dsimp only
      refine wpS_bind (wpS_ltN hc h0 hB3 (by lia) (by lia) ?_)
      cases hw:O.blt (key (nth (arrOf (setArr st4 (mirror (arrOf st4) lo (lo+m) ((lo+m-lo) / 2)))) (lo+x))) (key (nth (arrOf (setArr st4 (mirror (arrOf st4) lo (lo+m) ((lo+m-lo) / 2)))) (lo+x-1))) with
      |true=>exact wpS_pure ⟨rfl,x,rfl,hx1,by lia,sg⟩
      |false=>exact wpS_pure ⟨rfl,rfl,sg.more (by lia) hw⟩
     case po3 =>
      rintro c st' ⟨e,y,rfl,y1,y2,sg⟩
      subst e
      exact wpS_pure (h y _ hB3 (by lia) y2 sg)
end
end Sg
namespace Sg
open PySem PyProof.Rows
section pure
variable {O:KeyOrd}{key:Keyed→O.α}
abbrev Run:=Nat×Nat×Nat
def tot:List Run→Nat
 |[]=>0
 |p::P=>p.2.1+tot P
def Cov (key:Keyed→O.α):List Run→Nat→List Keyed→Prop
 |[],_,_=>True
 |p::P,f,l=>p.1=f∧1≤p.2.1∧p.2.1≤l.length∧Up key (l.take p.2.1)∧Cov key P (f+p.2.1) (l.drop p.2.1)
theorem tot_app:∀ (P Q:List Run),tot (P++Q)=tot P+tot Q
 |[],Q=>by simp[tot]
 |p::P,Q=>by simp only[List.cons_append,tot,tot_app P Q]; lia
theorem cov_app:∀ (P Q:List Run) (f:Nat) (l:List Keyed),Cov key (P++Q) f l↔Cov key P f l∧Cov key Q (f+tot P) (l.drop (tot P))
 |[],Q,f,l=>by simp[Cov,tot]
 |p::P,Q,f,l=>by
  simp only[List.cons_append,Cov,tot,cov_app P Q,List.drop_drop,Nat.add_assoc]
  constructor
  ·rintro⟨a,b,c,d,e,g⟩; exact⟨⟨a,b,c,d,e⟩,g⟩
  ·rintro⟨⟨a,b,c,d,e⟩,g⟩; exact⟨a,b,c,d,e,g⟩
theorem cov_len:∀ (P:List Run) (f:Nat) (l:List Keyed),Cov key P f l→tot P≤l.length∧P.length≤tot P
 |[],f,l,_=>by simp[tot]
 |p::P,f,l,h=>by
  obtain⟨-,h2,h3,-,h5⟩:=h
  have ih:=cov_len P _ _ h5
  rw[List.length_drop] at ih
  simp only[tot,List.length_cons]
  lia
theorem cov_congr:∀ (P:List Run) (f:Nat) (l l':List Keyed),Cov key P f l→tot P≤l'.length→l'.take (tot P)=l.take (tot P)→Cov key P f l'
 |[],_,_,_,_,_,_=>trivial
 |p::P,f,l,l',h,hl,e=>by
  obtain⟨h1,h2,h3,h4,h5⟩:=h
  simp only[tot] at hl e
  have e1:l'.take p.2.1=l.take p.2.1:=by
   have:=congrArg (List.take p.2.1) e
   rwa [List.take_take,List.take_take,Nat.min_eq_left (by lia)] at this
  refine⟨h1,h2,by lia,by rw[e1]; exact h4,cov_congr P _ (l.drop p.2.1) _ h5 (by rw[List.length_drop]; lia) ?_⟩
  have:=congrArg (List.drop p.2.1) e
  rwa [List.drop_take,List.drop_take,Nat.add_sub_cancel_left] at this
theorem cov_same:∀ (P P':List Run) (f:Nat) (l:List Keyed),P'.map (fun p=>(p.1,p.2.1))=P.map (fun p=>(p.1,p.2.1))→Cov key P f l→Cov key P' f l
 |[],[],_,_,_,_=>trivial
 |[],_::_,_,_,e,_=>by simp at e
 |_::_,[],_,_,e,_=>by simp at e
 |p::P,p'::P',f,l,e,h=>by
  simp only[List.map_cons,List.cons.injEq,Prod.mk.injEq] at e
  obtain⟨⟨e1,e2⟩,e3⟩:=e
  obtain⟨h1,h2,h3,h4,h5⟩:=h
  refine⟨e1.trans h1,?_,?_,?_,?_⟩ <;> rw[e2] <;> try assumption
  exact cov_same P P' _ _ e3 h5
theorem tot_same:∀ (P P':List Run),P'.map (fun p=>(p.1,p.2.1))=P.map (fun p=>(p.1,p.2.1))→tot P'=tot P
 |[],[],_=>rfl
 |[],_::_,e=>by simp at e
 |_::_,[],e=>by simp at e
 |p::P,p'::P',e=>by
  simp only[List.map_cons,List.cons.injEq,Prod.mk.injEq] at e
  obtain⟨⟨e1,e2⟩,e3⟩:=e
  simp only[tot,e2,tot_same P P' e3]
theorem split_at {P:List Run}{i:Nat}(h:i+1<P.length):∃ pre x y post,P=pre++x::y::post∧pre.length=i:=by
 refine⟨P.take i,P[i],P[i+1],P.drop (i+2),?_,by rw[List.length_take]; lia⟩
 rw[← List.drop_eq_getElem_cons (i:=i+1),← List.drop_eq_getElem_cons (i:=i),List.take_append_drop]
theorem up_of_segN {xs:Array Keyed}{i n:Nat}(h:SegN key xs i (i+n)):Up key ((xs.toList.drop i).take n):=by
 refine List.pairwise_iff_getElem.mpr fun p q hp hq hpq=>?_
 have hq':=hq
 rw[List.length_take,List.length_drop,Array.length_toList] at hq'
 rw[List.getElem_take,List.getElem_take,List.getElem_drop,List.getElem_drop]
 have e1:=nth_list (xs:=xs) (i:=i+p) (by lia)
 have e2:=nth_list (xs:=xs) (i:=i+q) (by lia)
 rw[List.getElem?_eq_getElem (by simp; lia)] at e1 e2
 rw[Option.some.inj e1,Option.some.inj e2]
 exact h _ _ (by lia) (by lia) (by lia)
theorem take_low {xs ys:Array Keyed}{n:Nat}(h:∀ i,i<n→xs[i]?=ys[i]?):xs.toList.take n=ys.toList.take n:=by
 apply List.ext_getElem?
 intro i
 by_cases hi:i<n
 ·rw[List.getElem?_take_of_lt hi,List.getElem?_take_of_lt hi,Array.getElem?_toList,Array.getElem?_toList]
  exact h i hi
 ·rw[List.getElem?_take_eq_none (by lia),List.getElem?_take_eq_none (by lia)]
theorem map_modify_same {α β:Type}(g:α→β)(f:α→α)(hg:∀ x,g (f x)=g x)(l:List α)(i:Nat):(l.modify i f).map g=l.map g:=by
 apply List.ext_getElem?
 intro j
 rw[List.getElem?_map,List.getElem?_map,List.getElem?_modify]
 cases l[j]? with
 |none=>rfl
 |some x =>
  simp only[Option.map_some,Option.map_eq_map]
  split
  ·rw[hg]
  ·rfl
end pure
structure J {O:KeyOrd}(key:Keyed→O.α)(a₀:Array Keyed)(kd:SortKind)(lo:Nat)(D:List Keyed)(st:SortSt):Prop where
 perm:(arrOf st).Perm a₀
 kind:kindOf st=kd
 failed:failedOf st=none
 cov:Cov key (pendingOf st).toList 0 (arrOf st).toList
 tt:tot (pendingOf st).toList=lo
 rest:(arrOf st).toList.drop lo=D
section
variable {prog:Program}{w:World}{A:Around}{E:Value→Shared→Prop}{s:Shared}{O:KeyOrd}{key:Keyed→O.α}{G:Keyed→Prop}{kd:SortKind}{st:SortSt}
 {a₀ b₀:Array Keyed} {P:Array (Nat×Nat×Nat)} {lo:Nat} {D:List Keyed}
theorem wpS_mergeJ {i:Nat}{Q:Bool→SortSt→Prop}(hc:Asks prog w s O key G kd)(h0:∀ x∈a₀.toList,G x)(hJ:J key a₀ kd lo D st)(hi:i+1<(pendingOf st).size)
  (h:∀ st',J key a₀ kd lo D st'→(pendingOf st').size+1=(pendingOf st).size→Q true st'):wpS (model prog w) A E s (mergeAt' i) Q st:=by
 obtain⟨pre,⟨sa,na,pw⟩,⟨sb,nb,pw'⟩,post,hP,hl⟩:=split_at (P:=(pendingOf st).toList) (i:=i) (by simpa using hi)
 have hcov:=hJ.cov
 rw[hP,cov_app] at hcov
 obtain⟨c1,e1,n1,m1,u1,e2,n2,m2,u2,c2⟩:=hcov
 dsimp only at e1 n1 m1 u1 e2 n2 m2 u2 c2
 have ht:=hJ.tt
 rw[hP,tot_app] at ht
 simp only[tot] at ht
 simp only[Nat.zero_add] at e1 e2
 rw[List.length_drop] at m1
 rw[List.length_drop,List.length_drop] at m2
 simp only[Array.length_toList] at m1 m2
 subst e1 e2
 rw[List.drop_drop] at u2 c2
 rw[List.drop_drop] at c2
 simp only[Nat.zero_add] at c2
 have hsz:(arrOf st).toList.length=(arrOf st).size:=Array.length_toList
 have hpl:(pendingOf st).size=pre.length+(post.length+2):=by
  rw[← Array.length_toList,hP,List.length_append,List.length_cons,List.length_cons]
 refine wpS_mergeAt (pre:=pre) (post:=post) (pw:=pw) (pw':=pw') hc hJ.kind hJ.failed (fun x hx=>h0 x ((Array.perm_iff_toList_perm.mp hJ.perm).mem_iff.mp hx)) (by rw[← hP]) hl.symm n1 n2 (by lia) u1 u2 ?_
 intro st' M k1 k2 k3 k4 k5 k6
 have lM:M.length=na+nb:=by
  rw[k5.length_eq,List.length_take,List.length_drop,hsz]
  lia
 have hall:(arrOf st).toList=(arrOf st).toList.take (tot pre)++((arrOf st).toList.drop (tot pre)).take (na+nb)++(arrOf st).toList.drop (tot pre+na+nb):=by
  rw[List.append_assoc,Nat.add_assoc (tot pre) na nb,← List.drop_drop,List.take_append_drop,List.take_append_drop]
 have lT:((arrOf st).toList.take (tot pre)).length=tot pre:=by rw[List.length_take,hsz]; lia
 have d1:(arrOf st').toList.drop (tot pre)=M++(arrOf st).toList.drop (tot pre+na+nb):=by
  rw[k4,List.append_assoc,List.drop_append_of_le_length (by lia),List.drop_of_length_le (by lia),List.nil_append]
 have d2:(arrOf st').toList.drop (tot pre+na+nb)=(arrOf st).toList.drop (tot pre+na+nb):=by
  rw[Nat.add_assoc,← List.drop_drop (i:=na+nb),d1,List.drop_append_of_le_length (by lia),List.drop_of_length_le (by lia),List.nil_append,Nat.add_assoc]
 have ppm:(arrOf st').toList.Perm (arrOf st).toList:=by
  rw[k4]
  conv=>rhs; rw[hall]
  exact (List.Perm.append_left _ k5).append_right _
 have hsz':(arrOf st').toList.length=(arrOf st).size:=by rw[ppm.length_eq,hsz]
 refine h st' ⟨(Array.perm_iff_toList_perm.mpr ppm).trans hJ.perm,k1,k2,?_,?_,?_⟩ ?_
 ·rw[k3,cov_app]
  refine⟨cov_congr _ _ _ _ c1 (by lia) ?_,?_⟩
  ·rw[k4,List.append_assoc,List.take_append_of_le_length (by lia),List.take_take,Nat.min_self]
  ·refine⟨by simp,by show 1≤na+nb; lia,by show na+nb≤_; rw[List.length_drop,hsz']; lia,?_,?_⟩
   ·show Up key (((arrOf st').toList.drop (tot pre)).take (na+nb))
    rw[d1,List.take_append_of_le_length (by lia),List.take_of_length_le (by lia)]
    exact k6
   ·show Cov key post (0+tot pre+(na+nb)) (((arrOf st').toList.drop (tot pre)).drop (na+nb))
    rw[List.drop_drop,show tot pre+(na+nb)=tot pre+na+nb by lia,d2,show 0+tot pre+(na+nb)=tot pre+na+nb by lia]
    rw[show tot pre+(na+nb)=tot pre+na+nb by lia] at c2
    exact c2
 ·rw[k3,tot_app]
  simp only[tot]
  lia
 ·have e:∃ r,lo=tot pre+na+nb+r:=⟨lo-(tot pre+na+nb),by lia⟩
  obtain⟨r,e⟩:=e
  rw[e,← List.drop_drop (i:=r),d2,List.drop_drop,← e]
  exact hJ.rest
 ·rw[hpl,k3]
  simp
  lia
theorem J.push {n pw:Nat}(hJ:J key a₀ kd lo D st)(h1:1≤n)(h2:lo+n≤(arrOf st).size)(u:Up key (D.take n)) :
  J key a₀ kd (lo+n) (D.drop n) (setPending st ((pendingOf st).push (lo,n,pw))):=by
 refine⟨hJ.perm,hJ.kind,hJ.failed,?_,?_,?_⟩
 ·show Cov key ((pendingOf st).push (lo,n,pw)).toList 0 (arrOf st).toList
  rw[Array.toList_push,cov_app]
  refine⟨hJ.cov,?_,h1,?_,?_,trivial⟩
  ·rw[hJ.tt]; simp
  ·rw[List.length_drop,Array.length_toList,hJ.tt]; simp only; lia
  ·rw[hJ.tt,hJ.rest]; exact u
 ·show tot ((pendingOf st).push (lo,n,pw)).toList=_
  rw[Array.toList_push,tot_app,hJ.tt]
  simp[tot]
 ·show (arrOf st).toList.drop (lo+n)=_
  rw[← List.drop_drop,hJ.rest]
theorem J.power {pw:Nat}(hJ:J key a₀ kd lo D st):J key a₀ kd lo D (setPending st ((pendingOf st).modify ((pendingOf st).size-1) fun x=>match x with | (a,b,_)=>(a,b,pw))):=by
 have e:((pendingOf st).modify ((pendingOf st).size-1) fun x:Run=>match x with | (a,b,_)=>(a,b,pw)).toList.map (fun p=>(p.1,p.2.1))=(pendingOf st).toList.map (fun p=>(p.1,p.2.1)):=by
  rw[Array.toList_modify]
  exact map_modify_same _ _ (fun ⟨a,b,c⟩=>rfl) _ _
 refine⟨hJ.perm,hJ.kind,hJ.failed,cov_same _ _ _ _ e hJ.cov,(tot_same _ _ e).trans hJ.tt,hJ.rest⟩
theorem wpS_runs {Q:Unit→SortSt→Prop}(hc:Asks prog w s O key G kd)(h0:∀ x∈a₀.toList,G x)(hpm:(arrOf st).Perm a₀)(hkd:kindOf st=kd)(hfl:failedOf st=none)(hpd:pendingOf st=#[])
  (h:∀ st',(arrOf st').Perm a₀→failedOf st'=none→Up key (arrOf st').toList→Q () st'):wpS (model prog w) A E s sortRuns' Q st:=by
 rw[sortRuns'_eq]
 refine wpS_bind (wpS_get ?_)
 have hz:(arrOf st).size=a₀.size:=hpm.size_eq
 dsimp only
 rw[hz]
 have hmr:∀ f n r,n≤f→(1≤n∨1≤r)→1≤minRun' f n r:=by
  intro f
  induction f with
  |zero=>intro n r h1 h2; show 1≤n+r; lia
  |succ f ih =>
   intro n r h1 h2
   rw[minRun'_succ]
   split
   ·lia
   ·exact ih _ _ (by lia) (.inl (by lia))
 refine wpS_bind (wpS_mono (wpS_forRange
  (I:=fun x c st'=>∃ lo,c=(none,lo)∧x≤lo∧lo≤a₀.size∧J key a₀ kd lo ((arrOf st').toList.drop lo) st')
  (Q:=fun c st'=>c=(none,a₀.size)∧J key a₀ kd a₀.size [] st') ?is ?fi ?ini) ?po)
 case ini =>
  refine⟨0,rfl,Nat.le_refl _,Nat.zero_le _,hpm,hkd,hfl,?_,?_,rfl⟩
  ·rw[hpd]; exact trivial
  ·rw[hpd]; rfl
 case fi =>
  rintro c st' ⟨lo,rfl,l1,l2,hJ⟩
  have e:lo=a₀.size:=by lia
  subst e
  have hs:(arrOf st').size=a₀.size:=hJ.perm.size_eq
  rw[List.drop_of_length_le (by rw[Array.length_toList]; lia)] at hJ
  exact⟨rfl,hJ⟩
 case po =>
  rintro c st' ⟨rfl,hJ⟩
  dsimp only
  refine wpS_bind (wpS_mono (wpS_forRange (I:=fun x c st''=>c=(none,())∧J key a₀ kd a₀.size [] st''∧(pendingOf st'').size+x≤a₀.size)
   (Q:=fun c st''=>c=(none,())∧J key a₀ kd a₀.size [] st''∧(pendingOf st'').size≤1) ?is2 ?fi2 ?in2) ?po2)
  case in2 =>
   refine⟨rfl,hJ,?_⟩
   have z:=cov_len _ _ _ hJ.cov
   rw[hJ.tt,Array.length_toList,Array.length_toList] at z
   lia
  case fi2 =>
   rintro c st'' ⟨hc',hJ',hp⟩
   exact⟨hc',hJ',by lia⟩
  case is2 =>
   rintro x c st''-hx ⟨rfl,hJ',hp⟩
   refine wpS_bind (wpS_get ?_)
   by_cases hle:(pendingOf st'').size≤1
   ·rw[if_pos hle]
    exact wpS_pure ⟨rfl,hJ',hle⟩
   ·rw[if_neg hle]
    refine wpS_bind (wpS_mergeJ hc h0 hJ' ?_ fun st3 hJ3 hs3=>?_)
    ·have two:∀ (b:Bool) (u:Nat),1<u→(if b=true then u-2-1 else u-2)+1<u:=by
      intro b u hu
      cases b <;> simp <;> lia
     exact two _ _ (by lia)
    ·exact wpS_pure ⟨rfl,hJ3,by lia⟩
  case po2 =>
   rintro c st'' ⟨rfl,hJ',hp⟩
   refine wpS_pure (h st'' hJ'.perm hJ'.failed ?_)
   have hs:(arrOf st'').toList.length=a₀.size:=by rw[Array.length_toList]; exact hJ'.perm.size_eq
   have hcv:=hJ'.cov
   have htt:=hJ'.tt
   have hl:(pendingOf st'').toList.length≤1:=by rw[Array.length_toList]; exact hp
   match hq:(pendingOf st'').toList,hl with
   |[],_ =>
    rw[hq] at htt
    simp only[tot] at htt
    have:(arrOf st'').toList=[]:=List.eq_nil_of_length_eq_zero (by lia)
    rw[this]
    exact List.Pairwise.nil
   |[p],_ =>
    rw[hq] at htt hcv
    simp only[tot] at htt
    have u:=hcv.2.2.2.1
    rwa [List.take_of_length_le (by lia)] at u
 case is =>
  rintro x c st'-hx ⟨lo,rfl,l1,l2,hJ⟩
  dsimp only
  by_cases hge:lo ≥ a₀.size
  ·rw[if_pos hge]
   have e:lo=a₀.size:=by lia
   subst e
   have hs:(arrOf st').size=a₀.size:=hJ.perm.size_eq
   rw[List.drop_of_length_le (by rw[Array.length_toList]; lia)] at hJ
   exact wpS_pure ⟨rfl,hJ⟩
  rw[if_neg hge]
  have hm1:1≤minRun' a₀.size a₀.size 0:=hmr _ _ _ (Nat.le_refl _) (.inl (by lia))
  have B0:Nc a₀ kd (pendingOf st') lo (arrOf st') st':=⟨hJ.perm,hJ.kind,hJ.failed,rfl,fun _ _=>rfl⟩
  have next:∀ (st2:SortSt) (n:Nat),Nc a₀ kd (pendingOf st') lo (arrOf st') st2→1≤n→lo+n≤a₀.size→SegN key (arrOf st2) lo (lo+n) →
    J key a₀ kd lo ((arrOf st2).toList.drop lo) st2∧Up key (((arrOf st2).toList.drop lo).take n):=by
   intro st2 n B n1 n2 sg
   refine⟨⟨B.perm,B.kind,B.failed,?_,by rw[B.pend]; exact hJ.tt,rfl⟩,up_of_segN sg⟩
   rw[B.pend]
   refine cov_congr _ _ _ _ hJ.cov ?_ ?_
   ·rw[hJ.tt,Array.length_toList,B.size]; lia
   ·rw[hJ.tt]; exact take_low B.low
  refine wpS_bind (wpS_run hc h0 (by lia) (by lia) B0 fun m st2 B2 m1 m2 sg=>?_)
  dsimp only
  by_cases hlt:m<minRun' a₀.size a₀.size 0
  ·rw[if_pos hlt]
   refine wpS_bind (wpS_lift (wpAny_rule ⟨rfl,?_⟩))
   refine wpS_bind (wpS_insert hc h0 (by lia) (by lia) B2 sg fun st3 B3 sg3=>?_)
   rw[if_neg (by simp)]
   obtain⟨J3,u3⟩:=next st3 _ B3 (by lia) (by lia) sg3
   have n1:1≤min (a₀.size-lo) (minRun' a₀.size a₀.size 0):=by lia
   have n2:lo+min (a₀.size-lo) (minRun' a₀.size a₀.size 0)≤a₀.size:=by lia
   generalize min (a₀.size-lo) (minRun' a₀.size a₀.size 0)=n at n1 n2 u3 ⊢
   have last:∀ (st4:SortSt),J key a₀ kd lo ((arrOf st3).toList.drop lo) st4→∃ l4,((none:Option Unit),lo+n)=(none,l4)∧x+1≤l4∧l4≤a₀.size∧J key a₀ kd l4 ((arrOf (setPending st4 ((pendingOf st4).push (lo,n,0)))).toList.drop l4) (setPending st4 ((pendingOf st4).push (lo,n,0))):=by
    intro st4 J4
    have z:=J4.push (pw:=0) n1 (by rw[J4.perm.size_eq]; exact n2) u3
    have e:=z.rest
    refine⟨lo+n,rfl,by lia,n2,?_⟩
    rw[e]
    exact z
   refine wpS_bind (wpS_get ?_)
   cases hbk:(pendingOf st3).back? with
   |none=>exact wpS_bind (wpS_modify (wpS_pure (last _ J3)))
   |some q =>
    obtain⟨s1,n1',o1⟩:=q
    dsimp only
    refine wpS_bind (wpS_mono (wpS_forRange (I:=fun _ c st4=>c=(none,())∧J key a₀ kd lo ((arrOf st3).toList.drop lo) st4)
     (Q:=fun c st4=>c=(none,())∧J key a₀ kd lo ((arrOf st3).toList.drop lo) st4) ?is5 (fun _ _ z=>z) ⟨rfl,J3⟩) ?po5)
    case po5 =>
     rintro c st4 ⟨rfl,J4⟩
     exact wpS_bind (wpS_modify (wpS_bind (wpS_modify (wpS_pure (last _ J4.power)))))
    case is5 =>
     rintro y c st4-hy ⟨rfl,J4⟩
     refine wpS_bind (wpS_get ?_)
     split
     ·split
      ·exact wpS_pure ⟨rfl,J4⟩
      ·rename_i heq _
       refine wpS_bind (wpS_mergeJ hc h0 J4 ?_ fun st5 J5 _=>wpS_pure ⟨rfl,J5⟩)
       split at heq
       ·lia
       ·exact absurd heq (by simp)
     ·exact wpS_pure ⟨rfl,J4⟩
  ·rw[if_neg hlt]
   obtain⟨J3,u3⟩:=next st2 m B2 m1 (by lia) sg
   have n1:1≤m:=m1
   have n2:lo+m≤a₀.size:=by lia
   generalize m=n at n1 n2 u3 ⊢
   generalize st2=st3 at J3 u3 ⊢
   have last:∀ (st4:SortSt),J key a₀ kd lo ((arrOf st3).toList.drop lo) st4→∃ l4,((none:Option Unit),lo+n)=(none,l4)∧x+1≤l4∧l4≤a₀.size∧J key a₀ kd l4 ((arrOf (setPending st4 ((pendingOf st4).push (lo,n,0)))).toList.drop l4) (setPending st4 ((pendingOf st4).push (lo,n,0))):=by
    intro st4 J4
    have z:=J4.push (pw:=0) n1 (by rw[J4.perm.size_eq]; exact n2) u3
    have e:=z.rest
    refine⟨lo+n,rfl,by lia,n2,?_⟩
    rw[e]
    exact z
   refine wpS_bind (wpS_get ?_)
   cases hbk:(pendingOf st3).back? with
   |none=>exact wpS_bind (wpS_modify (wpS_pure (last _ J3)))
   |some q =>
    obtain⟨s1,n1',o1⟩:=q
    dsimp only
    refine wpS_bind (wpS_mono (wpS_forRange (I:=fun _ c st4=>c=(none,())∧J key a₀ kd lo ((arrOf st3).toList.drop lo) st4)
     (Q:=fun c st4=>c=(none,())∧J key a₀ kd lo ((arrOf st3).toList.drop lo) st4) ?is5 (fun _ _ z=>z) ⟨rfl,J3⟩) ?po5)
    case po5 =>
     rintro c st4 ⟨rfl,J4⟩
     exact wpS_bind (wpS_modify (wpS_bind (wpS_modify (wpS_pure (last _ J4.power)))))
    case is5 =>
     rintro y c st4-hy ⟨rfl,J4⟩
     refine wpS_bind (wpS_get ?_)
     split
     ·split
      ·exact wpS_pure ⟨rfl,J4⟩
      ·rename_i heq _
       refine wpS_bind (wpS_mergeJ hc h0 J4 ?_ fun st5 J5 _=>wpS_pure ⟨rfl,J5⟩)
       split at heq
       ·lia
       ·exact absurd heq (by simp)
     ·exact wpS_pure ⟨rfl,J4⟩
end
end Sg
namespace Sg
open PySem PyProof.Rows PySem.Spec
def Ext (h h':Heap):Prop:=∀ b o,h.get? b=some o→h'.get? b=some o
theorem Ext.refl (h:Heap):Ext h h:=fun _ _ e=>e
structure Sorts (prog:Program)(w:World)(h:Heap)(vs:List Value)(O:KeyOrd)(key:Keyed→O.α)(G:Keyed→Prop)(kd:SortKind):Prop where
 good:∀ v∈vs,G (v,v)
 kind:2≤vs.length→∀ (s:Shared) (A:Around) (E:Value→Shared→Prop) (Q:SortKind→Shared→Prop),Ext h s.heap→Q kd s→wpAny (model prog w) A (keyKind' vs.toArray) Q E s
 asks:∀ s:Shared,Ext h s.heap→Asks prog w s O key G kd
section
variable {prog:Program}{w:World}{A:Around}{E:Value→Shared→Prop}{s:Shared}{O:KeyOrd}{key:Keyed→O.α}{G:Keyed→Prop}{kd:SortKind}{h:Heap}{vs:List Value}
theorem outs {xs:Array Keyed}(hp:xs.Perm (pairsOf vs))(hu:Up key xs.toList) :
  (xs.map (·.2)).toList.Perm vs∧(xs.map (·.2)).toList.Pairwise fun a b=>O.kle (key (a,a)) (key (b,b)):=by
 have hl:xs.toList.Perm (vs.zip vs):=by rw[← pairsOf_toList]; exact Array.perm_iff_toList_perm.mp hp
 have hm:∀ p∈xs.toList,p=(p.2,p.2):=fun p q=>Prod.ext (mem_zip_self (hl.mem_iff.mp q)).1 rfl
 rw[Array.toList_map]
 constructor
 ·have e:=hl.map (·.2)
  rwa [show (vs.zip vs).map (·.2)=vs from List.map_snd_zip (Nat.le_refl _)] at e
 ·refine List.pairwise_map.mpr (List.Pairwise.imp_of_mem (fun {a b} ha hb hab=>?_) hu)
  rw[← hm a ha,← hm b hb]
  exact hab
theorem list_sort_any (S:Sorts prog w h vs O key G kd) {a:Addr} {n:Nat} {P:Fin→Shared→Prop} (ho:s.heap.get? a=some (seqObj "list" vs.toArray n)) (hx:h.get? a=none) (he:Ext h s.heap)
  (hsz:vs.length≤sizeLine)
  (hh:∀ out:Array Value,out.toList.Perm vs→(out.toList.Pairwise fun a b=>O.kle (key (a,a)) (key (b,b)))→P (.done (.ret .none)) { s with heap:=sortedHeap s.heap a vs out }) :
  wpAny (model prog w) A (Builtin.«list.sort» ⟨[.ref a],[]⟩) P E s:=by
 rw[list_sort_plain]
 have ha:a<s.heap.objs.size:=Heap.lt_size ho
 refine wpAny_bind (listItems_at ho rfl ?_)
 refine wpAny_bind (listUpdate_at ho rfl ?_ (by simpa using hsz) (Nat.zero_le _))
 obtain⟨e1,ho1⟩:∃ e1,(s.heap.update a (Obj.mapSeq fun _=>#[])).get? a=some (seqObj "list" #[] e1):=⟨_,get?_update_seq ho (fun _=>#[])⟩
 refine wpAny_bind (seqEpoch_at ho1 rfl ?_)
 refine wpAny_bind (wpAny_newTuple ?_ (by simpa using hsz))
 refine wpAny_bind (wpAny_newList ?_ (Nat.zero_le _))
 refine wpAny_holding ?_
 have keep:∀ b,b≠a→b<s.heap.objs.size→(((s.heap.update a (Obj.mapSeq fun _=>#[])).push (seqObj "tuple" vs.toArray 0)).push (seqObj "list" #[] 0)).get? b=(s.heap.update a (Obj.mapSeq fun _=>#[])).get? b:=by
  intro b _ hb
  rw[Heap.get?_push_ne _ _ _ (by rw[size_push',Heap.size_update]; exact Nat.ne_of_lt (Nat.lt_succ_of_lt hb)),Heap.get?_push_ne _ _ _ (by rw[Heap.size_update]; exact Nat.ne_of_lt hb)]
 have ho6:(((s.heap.update a (Obj.mapSeq fun _=>#[])).push (seqObj "tuple" vs.toArray 0)).push (seqObj "list" #[] 0)).get? a=some (seqObj "list" #[] e1):=by
  rw[Heap.get?_push_ne _ _ _ (by rw[size_push',Heap.size_update]; exact Nat.ne_of_lt (Nat.lt_succ_of_lt ha)),Heap.get?_push_ne _ _ _ (by rw[Heap.size_update]; exact Nat.ne_of_lt ha)]
  exact ho1
 have hX:Ext h (((s.heap.update a (Obj.mapSeq fun _=>#[])).push (seqObj "tuple" vs.toArray 0)).push (seqObj "list" #[] 0)):=by
  intro b o e
  have hb:b≠a:=fun z=>by rw[z,hx] at e; cases e
  rw[keep b hb (Heap.lt_size (he b o e)),Heap.get?_update_ne _ _ _ _ hb]
  exact he b o e
 show wpAny (model prog w) A _ P E { s with heap:=((s.heap.update a (Obj.mapSeq fun _=>#[])).push (seqObj "tuple" vs.toArray 0)).push (seqObj "list" #[] 0) }
 dsimp only
 have hlen:vs.toArray.size=vs.length:=by simp
 by_cases h2:vs.toArray.size<2
 ·rw[if_pos h2,if_pos h2]
  refine wpAny_bind (wpAny_pure ?_)
  rw[StateT.run_pure]
  refine wpAny_bind (wpAny_pure ?_)
  dsimp only
  refine wpAny_bind (seqEpoch_at ho6 rfl ?_)
  refine wpAny_bind (listUpdate_at ho6 rfl ?_ (Nat.zero_le _) (by rw[Array.size_map]; show (pairsOf vs).size≤_; rw[pairsOf_size]; omega))
  simp only[bne_self_eq_false,Bool.false_eq_true,if_false]
  have u0:Up key (pairsOf vs).toList:=by
   rw[pairsOf_toList]
   clear hh ho hX keep ho6 S hsz
   rcases vs with _ | ⟨v,_ | ⟨v2,r⟩⟩
   ·exact List.Pairwise.nil
   ·exact List.pairwise_singleton _ _
   ·simp at h2
    omega
  have z:=outs (vs:=vs) (Array.Perm.refl (pairsOf vs)) u0
  exact wpAny_pure (hh _ z.1 z.2)
 ·rw[if_neg h2,if_neg h2]
  refine wpAny_bind (S.kind (by omega) _ _ _ _ hX ?_)
  have g0:∀ x∈(pairsOf vs).toList,G x:=by
   intro x q
   rw[pairsOf_toList] at q
   have e:=mem_zip_self q
   have e2:x=(x.1,x.1):=Prod.ext rfl e.1.symm
   rw[e2]
   exact S.good _ e.2
  refine wpAny_bind (wpAny_mono (wpS_runs (a₀:=pairsOf vs) (key:=key) (G:=G) (kd:=kd) (st:=SortSt.mk' kd (vs.toArray.zip vs.toArray) #[] 7 none)
   (Q:=fun _ st'=>(arrOf st').Perm (pairsOf vs)∧failedOf st'=none∧Up key (arrOf st').toList)
   (S.asks _ hX) g0 (Array.Perm.refl _) rfl rfl rfl fun st' a1 a2 a3=>⟨a1,a2,a3⟩) ?_ fun _ _ e=>e)
  rintro⟨⟨⟩,st'⟩ s' ⟨rfl,hp,hf,hs⟩
  dsimp only
  refine wpAny_bind (seqEpoch_at ho6 rfl ?_)
  refine wpAny_bind (listUpdate_at ho6 rfl ?_ (Nat.zero_le _) (by refine Nat.le_trans (Nat.le_of_eq ((Array.size_map ..).trans (hp.size_eq.trans (pairsOf_size _)))) ?_; omega))
  rw[hf]
  simp only[bne_self_eq_false,Bool.false_eq_true,if_false]
  have z:=outs hp hs
  exact wpAny_pure (hh _ z.1 z.2)
theorem sorted_any {v:Value}{Q:Value→Shared→Prop}
  (hc:∀ A':Around,A'.handled=A.handled→wpAny (model prog w) A' (collect v) (fun vs s1=>vs.length≤sizeLine∧∃ (O:KeyOrd) (key:Keyed→O.α) (G:Keyed→Prop) (kd:SortKind),Sorts prog w s1.heap vs O key G kd ∧
   ∀ (out:List Value) (h':Heap) (e:Nat),out.Perm vs→(out.Pairwise fun a b=>O.kle (key (a,a)) (key (b,b)))→Ext s1.heap h'→h'.get? s1.heap.objs.size=some (seqObj "list" out.toArray e) →
    Q (.ref s1.heap.objs.size) { s1 with heap:=h' }) E s) :
  wpAny (model prog w) A (call (.builtin "sorted") [v]) Q E s:=by
 refine Calls.call_function_entry kind_sorted plain_sorted entry_sorted (args_sorted1 _) ?_
 unfold Builtin.«sorted»
 refine wpAny_bind (m:=checkCount "sorted" 1 1 _) (wpAny_pure ?_)
 refine wpAny_bind (wpAny_mono (hc _ (by first | rfl | simp)) (fun vs s1 hq=>?_) fun _ _ e=>e)
 obtain⟨hsz,O,key,G,kd,S,hq⟩:=hq
 refine wpAny_bind (wpAny_newList ?_ hsz)
 have hoL:(s1.heap.push (seqObj "list" vs.toArray 0)).get? s1.heap.objs.size=some (seqObj "list" vs.toArray 0):=Heap.get?_push_size _ rfl
 have hE:Ext s1.heap (s1.heap.push (seqObj "list" vs.toArray 0)):=fun b o e=>Heap.get?_push_of_some _ e
 show wpAny _ _ _ _ _ { s1 with heap:=s1.heap.push (seqObj "list" vs.toArray 0) }
 refine wpAny_bind (wpAny_holding (wpAny_call_entry slot_list_sort ⟨_,hoL,rfl⟩ entry_list_sort
  (list_sort_any (s:={ s1 with heap:=s1.heap.push (seqObj "list" vs.toArray 0) }) S hoL (Heap.get?_none_of_le (Nat.le_refl _)) hE hsz fun out a1 a2=>⟨_,rfl,?_⟩) (args_list_sort _)))
 obtain⟨e,he⟩:=sortedHeap_at (out:=out) hoL
 refine wpAny_pure ⟨_,rfl,hq out.toList _ e a1 a2 (fun b o q=>?_) (by simpa using he)⟩
 have hb:b<s1.heap.objs.size:=Heap.lt_size q
 rw[sortedHeap_old (Nat.ne_of_lt hb) (by rw[size_push']; exact Nat.lt_succ_of_lt hb)]
 exact hE b o q
end
end Sg
namespace Sg
open PySem PyProof.Rows PySem.Spec PySem.W
structure Atom where
 O:KeyOrd
 dflt:O.α
 keyOf:Value→Option O.α
 T:Value
 notTup:(T != Value.type "tuple")=true
 self:(T == T)=true
 ty:∀ (M:Model) (h:Heap) (v:Value) (k:O.α),keyOf v=some k→Looks M h (typeOf v) T
 eqs:∀ {prog:Program} {w:World} {A:Around} {E:Value→Shared→Prop} {s:Shared} {p q:Value} {a b:O.α} {Q:Bool→Shared→Prop},keyOf p=some a→keyOf q=some b →
  (∀ c:Bool,(c=true↔a=b)→Q c s)→wpAny (model prog w) A (eqBool p q) Q E s
 lts:∀ {prog:Program} {w:World} {A:Around} {E:Value→Shared→Prop} {s:Shared} {p q:Value} {a b:O.α} {Q:Bool→Shared→Prop} (c:Bool),keyOf p=some a→keyOf q=some b →
  Q (O.blt a b) s→wpAny (model prog w) A (oneLt' c p q) Q E s
@[reducible] def intOrd:KeyOrd where
 α:=Int
 blt a b:=decide (a<b)
 irrefl a:=by simp
 trans a b c h1 h2:=by simp only[decide_eq_true_eq] at *; lia
 negTrans a b c h:=by simp only[decide_eq_true_eq] at *; lia
 total a b h1 h2:=by simp only[decide_eq_false_iff_not] at *; lia
def lexOrd (P R:KeyOrd):KeyOrd where
 α:=P.α×R.α
 blt a b:=P.blt a.1 b.1||(!P.blt b.1 a.1&&R.blt a.2 b.2)
 irrefl a:=by rw[P.irrefl,R.irrefl]; rfl
 trans a b c h1 h2:=by
  simp only[Bool.or_eq_true,Bool.and_eq_true,Bool.not_eq_true'] at *
  rcases h1 with h1 | ⟨h1,h1'⟩ <;> rcases h2 with h2 | ⟨h2,h2'⟩
  ·exact .inl (P.trans _ _ _ h1 h2)
  ·exact .inl (KeyOrd.klt_of_klt_of_kle (O:=P) h1 h2)
  ·exact .inl (KeyOrd.klt_of_kle_of_klt (O:=P) h1 h2)
  ·exact .inr ⟨KeyOrd.kle_trans (O:=P) h1 h2,R.trans _ _ _ h1' h2'⟩
 negTrans a b c h:=by
  simp only[Bool.or_eq_true,Bool.and_eq_true,Bool.not_eq_true'] at *
  rcases h with h | ⟨h,h'⟩
  ·rcases P.negTrans _ b.1 _ h with z | z
   ·exact .inl (.inl z)
   ·exact .inr (.inl z)
  ·cases e1:P.blt a.1 b.1 with
   |true=>exact .inl (.inl rfl)
   |false =>
    cases e2:P.blt b.1 c.1 with
    |true=>exact .inr (.inl rfl)
    |false =>
     have e3:P.blt b.1 a.1=false:=by
      cases z:P.blt b.1 a.1 with
      |false=>rfl
      |true =>
       rcases P.negTrans _ c.1 _ z with y | y
       ·rw[e2] at y; cases y
       ·rw[h] at y; cases y
     have e4:P.blt c.1 b.1=false:=by
      cases z:P.blt c.1 b.1 with
      |false=>rfl
      |true =>
       rcases P.negTrans _ a.1 _ z with y | y
       ·rw[h] at y; cases y
       ·rw[e1] at y; cases y
     rcases R.negTrans _ b.2 _ h' with z | z
     ·exact .inl (.inr ⟨e3,z⟩)
     ·exact .inr (.inr ⟨e4,z⟩)
 total a b h1 h2:=by
  simp only[Bool.or_eq_false_iff] at *
  have e:=P.total _ _ h1.1 h2.1
  have g1:=h1.2
  have g2:=h2.2
  rw[h2.1] at g1
  rw[h1.1] at g2
  exact Prod.ext e (R.total _ _ (by simpa using g1) (by simpa using g2))
def intAtom:Atom where
 O:=intOrd
 dflt:=(0:Int)
 keyOf v:=match v with | .int n _=>some n | _=>none
 T:=Value.type "int"
 notTup:=rfl
 self:=rfl
 ty:=by
  intro M h v k e
  cases v <;> simp only[reduceCtorEq] at e
  exact Looks.now
 eqs:=by
  intro prog w A E s p q a b Q ha hb hQ
  cases p <;> simp only[reduceCtorEq,Option.some.injEq] at ha
  cases q <;> simp only[reduceCtorEq,Option.some.injEq] at hb
  subst ha hb
  exact wpAny_eqBool_int (hQ _ (by simp))
 lts:=by
  intro prog w A E s p q a b Q c ha hb hQ
  cases p <;> simp only[reduceCtorEq,Option.some.injEq] at ha
  cases q <;> simp only[reduceCtorEq,Option.some.injEq] at hb
  subst ha hb
  cases c with
  |true=>exact oneLt_int hQ
  |false=>exact kat_one _ _ (PyProof.Rows.lt_int hQ)
def strAtom:Atom where
 O:=strKind.toKeyOrd
 dflt:=([]:List Nat)
 keyOf v:=match v with | .str x _=>some x.cps.toList | _=>none
 T:=Value.type "str"
 notTup:=rfl
 self:=rfl
 ty:=by
  intro M h v k e
  cases v <;> simp only[reduceCtorEq] at e
  exact Looks.now
 eqs:=by
  intro prog w A E s p q a b Q ha hb hQ
  cases p <;> simp only[reduceCtorEq,Option.some.injEq] at ha
  cases q <;> simp only[reduceCtorEq,Option.some.injEq] at hb
  subst ha hb
  rename_i x _ y _
  refine wpAny_eqBool_str (hQ _ ?_)
  cases x; cases y
  simp only[decide_eq_true_eq,Str.mk.injEq]
  exact Array.toList_inj.symm
 lts:=by
  intro prog w A E s p q a b Q c ha hb hQ
  cases p <;> simp only[reduceCtorEq,Option.some.injEq] at ha
  cases q <;> simp only[reduceCtorEq,Option.some.injEq] at hb
  subst ha hb
  cases c with
  |true=>exact oneLt_str hQ
  |false=>exact kat_one _ _ (PyProof.Rows.lt_str (show PySem.W.BoolBack Q (Value.bool _) s from hQ))
variable {prog:Program}{w:World}
theorem sorts_atoms (Z:Atom)(h:Heap){vs:List Value}(hv:∀ v∈vs,∃ k,Z.keyOf v=some k)(hk:∀ v₁ v₂ r,vs=v₁::v₂::r→keyKind' (v₁::v₂::r).toArray=pure oneType') :
  Sorts prog w h vs Z.O (fun p=>(Z.keyOf p.1).getD Z.dflt) (fun p=>∃ k,Z.keyOf p.1=some k) oneType':=by
 refine⟨fun v m=>hv v m,fun h2 s A E Q _ hQ=>?_,fun s _ A E x y Q gx gy hQ=>?_⟩
 ·match vs,h2,hk with
  |v₁::v₂::r,_,hk =>
   rw[hk v₁ v₂ r rfl]
   exact wpAny_pure hQ
  |[v],h2,_=>exact absurd h2 (by simp)
  |[],h2,_=>exact absurd h2 (by simp)
 ·obtain⟨a,ha⟩:=gx
  obtain⟨b,hb⟩:=gy
  rw[keyLt'_oneType]
  rw[ha,hb] at hQ
  exact Z.lts true ha hb hQ
theorem sorts_strs (h:Heap){vs:List Value}{ss:List Str}(hS:StrsAre vs ss) :
  Sorts prog w h vs strAtom.O (fun p=>(strAtom.keyOf p.1).getD strAtom.dflt) (fun p=>∃ k,strAtom.keyOf p.1=some k) oneType' :=
 sorts_atoms strAtom h (fun v m=>by obtain⟨x,t,rfl⟩:=hS.all v m; exact⟨_,rfl⟩) fun v₁ v₂ r e=>keyKind_strs (by rw[← e]; exact hS)
def IsPair (Y Z:Atom)(h:Heap)(v:Value)(k:Y.O.α×Z.O.α):Prop :=
 ∃ x o u r n,v=.ref x∧h.get? x=some o∧o.cls=.type "tuple"∧o.data=.seq #[u,r] n∧Y.keyOf u=some k.1∧Z.keyOf r=some k.2
open Classical in
noncomputable def pairKey (Y Z:Atom)(h:Heap)(v:Value):Y.O.α×Z.O.α:=if e:∃ k,IsPair Y Z h v k then e.choose else (Y.dflt,Z.dflt)
theorem pairKey_of {Y Z:Atom}{h:Heap}{v:Value}{k:Y.O.α×Z.O.α}(hk:IsPair Y Z h v k):pairKey Y Z h v=k:=by
 have e:∃ k,IsPair Y Z h v k:=⟨k,hk⟩
 unfold pairKey
 rw[dif_pos e]
 obtain⟨x,o,u,r,n,e1,e2,e3,e4,e5,e6⟩:=e.choose_spec
 obtain⟨x',o',u',r',n',f1,f2,f3,f4,f5,f6⟩:=hk
 have hx:x'=x:=by rw[f1] at e1; cases e1; rfl
 subst hx
 rw[f2] at e2
 cases e2
 rw[f4] at e4
 cases e4
 rw[f5] at e5
 rw[f6] at e6
 exact Prod.ext (Option.some.inj e5).symm (Option.some.inj e6).symm
theorem tups_of {Y Z:Atom}{h h':Heap}(hE:Ext h h'):∀ {vs:List Value},(∀ v∈vs,∃ k,IsPair Y Z h v k)→∃ fs,KatTups h' vs fs∧fs.length=vs.length∧∀ f∈fs,∃ k,Y.keyOf f=some k
 |[],_=>⟨[],.nil,rfl,fun _ q=>absurd q (by simp)⟩
 |v::vs,hv=>by
  obtain⟨fs,t,hl,hf⟩:=tups_of hE (vs:=vs) fun v m=>hv v (List.mem_cons_of_mem _ m)
  obtain⟨k,x,o,u,r,n,rfl,e2,e3,e4,e5,e6⟩:=hv v List.mem_cons_self
  refine⟨u::fs,KatTups.cons (hE _ _ e2) e3 e4 rfl t,by simp[hl],fun f m=>?_⟩
  rcases List.mem_cons.mp m with rfl | m
  ·exact⟨_,e5⟩
  ·exact hf f m
theorem sorts_pairs (Y Z:Atom)(h:Heap){vs:List Value}(hv:∀ v∈vs,∃ k,IsPair Y Z h v k) :
  Sorts prog w h vs (lexOrd Y.O Z.O) (fun p=>pairKey Y Z h p.1) (fun p=>∃ k,IsPair Y Z h p.1 k) (tuples' true):=by
 refine⟨fun v m=>hv v m,fun h2 s A E Q hE hQ=>?_,fun s hE A E x y Q gx gy hQ=>?_⟩
 ·obtain⟨fs,t,hl,hf⟩:=tups_of hE hv
  refine kat_kind t (by lia) (T:=Y.T) (fun v m=>?_) Y.self ?_
  ·obtain⟨k,e⟩:=hf v m
   exact Y.ty _ _ v k e
  ·rw[Y.notTup]
   exact hQ
 ·obtain⟨⟨a,b⟩,hx⟩:=gx
  obtain⟨⟨a',b'⟩,hy⟩:=gy
  rw[pairKey_of hx,pairKey_of hy] at hQ
  obtain⟨x1,o,u,r,n,e1,e2,e3,e4,e5,e6⟩:=hx
  obtain⟨y1,o',u',r',n',f1,f2,f3,f4,f5,f6⟩:=hy
  dsimp only at e5 e6 f5 f6
  rw[e1,f1]
  refine kat_lt (hE _ _ e2) e4 (hE _ _ f2) f4 ?_
  show KatLex prog w A true false Q [(u,u'),(r,r')] 0 s
  refine kat_cons (Y.eqs e5 f5 fun c hc=>kat_go (fun ec=>?_) fun ec=>?_)
  ·have ea:a=a':=hc.mp ec
   subst ea
   refine kat_yes (kat_cons (Z.eqs e6 f6 fun c2 hc2=>kat_go (fun ec2=>?_) fun ec2=>?_))
   ·have eb:b=b':=hc2.mp ec2
    subst eb
    refine kat_yes (kat_nil ?_)
    have z:(lexOrd Y.O Z.O).blt (a,b) (a,b)=false:=(lexOrd Y.O Z.O).irrefl (a,b)
    rw[z] at hQ
    exact hQ
   ·refine kat_no (wpAny_mono (Z.lts _ e6 f6 (Q:=Q) (E:=fun _ _=>False) ?_) (fun _ _ z=>z) fun _ _ z=>z)
    have z:(lexOrd Y.O Z.O).blt (a,b) (a,b')=Z.O.blt b b':=by
     show (Y.O.blt a a||(!Y.O.blt a a&&Z.O.blt b b'))=_
     rw[Y.O.irrefl]; rfl
    rw[z] at hQ
    exact hQ
  ·refine kat_no (Y.lts _ e5 f5 ?_)
   have ne:a≠a':=fun z=>by rw[hc.mpr z] at ec; cases ec
   have z:(lexOrd Y.O Z.O).blt (a,b) (a',b')=Y.O.blt a a':=by
    show (Y.O.blt a a'||(!Y.O.blt a' a&&Z.O.blt b b'))=_
    cases q1:Y.O.blt a a' with
    |true=>rfl
    |false =>
     cases q2:Y.O.blt a' a with
     |true=>rfl
     |false=>exact absurd (Y.O.total _ _ q1 q2) ne
   rw[z] at hQ
   exact hQ
end Sg
namespace Sg
open PySem
structure TSet (prog:Program)(w:World)(h:Heap)(a:Addr)(es:Array (Int×Value))(ep:Nat)(t:SetTable):Prop where
 obj:∃ o,h.get? a=some o∧o.ExactSet∧o.data=.set es ep t
 el:ElemsOf (PySem.strKind prog w) es.toList
 few:es.size<scanBound
 fits:t.fits es.size=true
 led:t.led=!(w.params.followText "set-order")
 plain:es.size=0∨t.plain=false
def txtOf:Value→Str
 |.str x _=>x
 |_=>⟨#[]⟩
def txts (es:Array (Int×Value)):List Str:=es.toList.map fun e=>txtOf e.2
def TSetD (prog:Program)(w:World)(h:Heap)(a:Addr)(D:List Str):Prop:=∃ es ep t,TSet prog w h a es ep t∧(txts es).Perm D
theorem TSet.keep {prog:Program}{w:World}{h h':Heap}{a:Addr}{es:Array (Int×Value)}{ep:Nat}{t:SetTable}(x:TSet prog w h a es ep t)(k:∀ o,h.get? a=some o→h'.get? a=some o):TSet prog w h' a es ep t :=
 ⟨let ⟨o,e,r⟩:=x.obj; ⟨o,k o e,r⟩,x.el,x.few,x.fits,x.led,x.plain⟩
theorem TSetD.keep {prog:Program}{w:World}{h h':Heap}{a:Addr}{D:List Str}(x:TSetD prog w h a D)(k:∀ o,h.get? a=some o→h'.get? a=some o):TSetD prog w h' a D :=
 let ⟨es,ep,t,y,p⟩:=x; ⟨es,ep,t,y.keep k,p⟩
theorem el_txt {prog:Program}{w:World}{l:List (Int×Value)}(h:ElemsOf (PySem.strKind prog w) l):∀ e∈l,∃ u,e.2=.str (txtOf e.2) u:=by
 intro e m
 obtain⟨⟨k,hk,-⟩,-⟩:=h e m
 obtain⟨u,e2⟩:=Value.isStrOf_shape hk
 rw[e2]
 exact⟨u,rfl⟩
def addS (D:List Str)(x:Str):List Str:=if x∈D then D else D++[x]
def metS (l:List Str):List Str:=l.foldl addS []
theorem addS_nodup {D:List Str}(h:D.Nodup)(x:Str):(addS D x).Nodup:=by
 unfold addS
 split
 ·exact h
 ·rename_i n
  refine List.nodup_append.mpr ⟨h,by simp,fun a ha b hb=>?_⟩
  rw[List.mem_singleton] at hb
  subst hb
  exact fun z=>n (z ▸ ha)
theorem mem_addS {D:List Str}{x y:Str}:y∈addS D x↔y∈D∨y=x:=by
 unfold addS
 split
 ·rename_i hm
  exact⟨.inl,fun z=>z.elim id fun e=>e ▸ hm⟩
 ·simp
theorem metS_aux:∀ (l D:List Str),D.Nodup→(l.foldl addS D).Nodup∧(∀ y,y∈l.foldl addS D↔y∈D∨y∈l)∧(l.foldl addS D).length≤D.length+l.length
 |[],D,h=>⟨h,fun y=>by simp,by simp⟩
 |x::l,D,h=>by
  have ih:=metS_aux l (addS D x) (addS_nodup h x)
  refine⟨ih.1,fun y=>?_,?_⟩
  ·rw[List.foldl_cons,ih.2.1,mem_addS,List.mem_cons,or_assoc]
  ·have z:(addS D x).length≤D.length+1:=by unfold addS; split <;> simp
   have:=ih.2.2
   rw[List.foldl_cons,List.length_cons]
   lia
theorem metS_nodup (l:List Str):(metS l).Nodup:=(metS_aux l [] List.nodup_nil).1
theorem mem_metS {l:List Str}{y:Str}:y∈metS l↔y∈l:=by
 have:=(metS_aux l [] List.nodup_nil).2.1 y
 simpa [metS] using this
theorem metS_len (l:List Str):(metS l).length≤l.length:=by
 have:=(metS_aux l [] List.nodup_nil).2.2
 simpa [metS] using this
theorem metS_snoc (l:List Str)(x:Str):metS (l++[x])=addS (metS l) x:=by
 unfold metS; rw[List.foldl_append]; rfl
theorem stand_led (t:SetTable)(n:Nat):(t.orStandIn n).led=t.led:=by
 unfold SetTable.orStandIn
 split <;> rfl
theorem lay_led (t:SetTable)(es:Array (Int×Value))(h:Int)(x:Value):(layNew t es h x).2.1.led=t.led:=by
 unfold layNew
 split
 ·rename_i slot wd _
  show ((t.put slot).1.orStandIn _).led=t.led
  rw[stand_led]
  rfl
 ·rfl
theorem relay_led (t:SetTable)(es:Array (Int×Value))(n:Nat)(hp:t.plain=false):(relayAll t es n).2.1.led=t.led∧(relayAll t es n).2.1.plain=false:=by
 unfold relayAll
 split
 ·rename_i t' order he
  have e:t'.led=t.led∧t'.plain=t.plain:=by
   unfold SetTable.relaid SetTable.laid at he
   simp only[Option.bind_eq_bind,Option.pure_def] at he
   cases ho:SetTable.layClean (SetTable.sizeAbove n-1) (es.map (·.1)) with
   |none=>rw[ho] at he; cases he
   |some ow =>
    rw[ho] at he
    simp only[Option.bind_some,Option.some.injEq,Prod.mk.injEq] at he
    rw[← he.1]
    exact⟨rfl,rfl⟩
  dsimp only
  split
  ·exact⟨e.1,e.2.trans hp⟩
  ·exact⟨rfl,rfl⟩
 ·exact⟨rfl,rfl⟩
section
variable {prog:Program}{w:World}{A:Around}{E:Value→Shared→Prop}{s:Shared}
theorem store_text {a:Addr}{es:Array (Int×Value)}{ep:Nat}{t:SetTable}{es':Array (Int×Value)}{t':SetTable}{Q:Unit→Shared→Prop}(x:TSet prog w s.heap a es ep t)
  (el:ElemsOf (PySem.strKind prog w) es'.toList) (few:es'.size<scanBound) (fits:t'.fits es'.size=true) (led:t'.led=t.led) (pl:t'.plain=false)
  (h:∀ h',Heap.SameBut a s.heap h'→TSet prog w h' a es' (ep+1) t'→Q () { s with heap:=h' }):wpAny (model prog w) A (storeSet a es' t') Q E s:=by
 obtain⟨o,ho,hex,hd⟩:=x.obj
 have z:=SetOf_store (knd:=PySem.strKind prog w) (S':=fun k=>es'.toList.any fun e=>(PySem.strKind prog w).is k e.2) ho hex hd el (fun k=>by rw[List.any_eq_true]) few fits
 refine wpAny_storeSet_of ho hd (h _ (Heap.SameBut.update s.heap a (Obj.putSet es' t')) ⟨⟨_,z.1,hex,rfl⟩,el,few,fits,led.trans x.led,.inr pl⟩) (fits_of_scanBound few)
theorem add_text {a:Addr}{D:List Str}{x:Str}{tk:Tok}{Q:Bool→Shared→Prop}(hS:TSetD prog w s.heap a D)(room:D.length+1<scanBound)
  (h:∀ h' b,Heap.SameBut a s.heap h'→TSetD prog w h' a (addS D x)→Q b { s with heap:=h',toks:=s.toks+1 }):wpAny (model prog w) A (setAdd a (.str x tk)) Q E s:=by
 obtain⟨es,ep,t,T,P⟩:=hS
 unfold setAdd
 refine wpAny_holding ?_
 refine wpAny_bind (wpAny_pyHash_str ?_)
 have hn:es.size=D.length:=by
  have:=P.length_eq
  unfold txts at this
  simpa using this
 have T':TSet prog w ({ s with toks:=s.toks+1 }:Shared).heap a es ep t:=T
 obtain⟨o,ho,hex,hd⟩:=T.obj
 have hkey:(PySem.strKind prog w).is x (.str x tk)=true:=by show Value.isStrOf x (.str x tk)=true; simp[Value.isStrOf]
 have hin:(∃ e∈es.toList,(PySem.strKind prog w).is x e.2=true)↔x∈D:=by
  rw[← P.mem_iff]
  unfold txts
  rw[List.mem_map]
  constructor
  ·rintro⟨e,m,q⟩
   obtain⟨u,e2⟩:=Value.isStrOf_shape q
   exact⟨e,m,by rw[e2]; rfl⟩
  ·rintro⟨e,m,q⟩
   obtain⟨u,e2⟩:=el_txt T.el e m
   refine⟨e,m,?_⟩
   rw[e2,q]
   show Value.isStrOf x (.str x u)=true
   simp[Value.isStrOf]
 unfold setAddHashed setAddHashedIn
 refine wpAny_holding (wpAny_bind (wpAny_setState_of (s:={ s with toks:=s.toks+1 }) ho hd T.fits ?_))
 dsimp only
 rw[byScan_of rfl T.few T.el]
 simp only[↓reduceIte]
 unfold setAddByScan
 refine wpAny_bind (wpAny_bind (wpAny_rule (wpAny_bind (wpAny_setScan_of (s:={ s with toks:=s.toks+1 }) hkey ho hd T.fits T.el ?_))))
 cases hr:List.findIdx? (fun e=>(PySem.strKind prog w).is x e.2) es.toList with
 |some j =>
  dsimp only
  obtain⟨hj,hpj,-⟩:=List.findIdx?_eq_some_iff_getElem.mp hr
  have hm:x∈D:=hin.mp ⟨es.toList[j],List.getElem_mem hj,hpj⟩
  refine wpAny_pure (wpAny_pure ?_)
  refine h s.heap _ (Heap.SameBut.refl a s.heap) ⟨es,ep,t,T,?_⟩
  unfold addS
  rw[if_pos hm]
  exact P
 |none =>
  dsimp only
  have hm:x∉D:=fun z=>by
   obtain⟨e,m,q⟩:=hin.mpr z
   have:=List.findIdx?_eq_none_iff.mp hr e m
   rw[q] at this
   cases this
  have hp:=layNew_perm t es (hashStr w x) (.str x tk)
  have hf:=layNew_fits t es (hashStr w x) (.str x tk)
  have hl:=lay_led t es (hashStr w x) (.str x tk)
  have hgw:∀ (b:Bool) (s₁:Shared) (Q':Unit→Shared→Prop),Q' () s₁→wpAny (model prog w) A (match b with | true=>rule "set.scan.the-table-gave-way" | false=>pure ()) Q' E s₁ :=
   fun b s₁ Q' q=>by
    cases b
    ·exact wpAny_pure q
    ·exact wpAny_rule q
  generalize hL:layNew t es (hashStr w x) (.str x tk)=L at hp hf hl ⊢
  obtain⟨es1,t1,wd,gave⟩:=L
  dsimp only at hp hf hl ⊢
  rw[Array.toList_push] at hp
  have el1:ElemsOf (PySem.strKind prog w) es1.toList:=(T.el.push hkey rfl).perm hp
  have sz1:es1.size=es.size+1:=by
   have:=hp.length_eq
   simpa using this
  have few1:es1.size<scanBound:=by lia
  have P1:(txts es1).Perm (addS D x):=by
   unfold addS txts
   rw[if_neg hm]
   refine (hp.map _).trans ?_
   rw[List.map_append]
   exact P.append_right _
  refine wpAny_bind (hgw _ _ _ ?_)
  have tail:∀ (t2:SetTable),t2.fits es1.size=true→t2.led=t.led→t2.plain=false →
    wpAny (model prog w) A (do
     storeSet a es1 t2
     if (!wd&&t2.tooFull)=true then do
       (match (relayAll t2 es1 (SetTable.grown es1.size)).2.2 with | true=>rule "set.scan.the-table-gave-way" | false=>pure ())
       storeSet a (relayAll t2 es1 (SetTable.grown es1.size)).1 (relayAll t2 es1 (SetTable.grown es1.size)).2.1
       pure (some true)
      else pure (some true)) (fun r s'=>wpAny (model prog w) A (match r with | some added=>pure added | none=>setAddHashedIn a (.str x tk) ((PySem.strKind prog w).hash x) 99999) Q E s') E { s with toks:=s.toks+1 }:=by
   intro t2 f2 l2 p2
   refine wpAny_bind (store_text (s:={ s with toks:=s.toks+1 }) T' el1 few1 f2 l2 p2 fun h1 sb1 T1=>?_)
   split
   ·have rp:=relayAll_perm t2 es1 (SetTable.grown es1.size)
    have rf:=relayAll_fits t2 es1 (SetTable.grown es1.size)
    have rl:=relay_led t2 es1 (SetTable.grown es1.size) p2
    have sz2:(relayAll t2 es1 (SetTable.grown es1.size)).1.size=es1.size:=by
     have:=rp.length_eq
     simpa using this
    refine wpAny_bind (hgw _ _ _ ?_)
    refine wpAny_bind (store_text (s:={ s with heap:=h1,toks:=s.toks+1 }) T1 (el1.perm rp) (by lia) rf rl.1 rl.2 fun h2 sb2 T2=>?_)
    exact wpAny_pure (wpAny_pure (h h2 _ (sb1.trans sb2) ⟨_,_,_,T2,(rp.map _).trans P1⟩))
   ·exact wpAny_pure (wpAny_pure (h h1 _ sb1 ⟨_,_,_,T1,P1⟩))
  by_cases hpl:t1.plain=true
  ·rw[if_pos hpl]
   refine wpAny_bind ?_
   rw[hashByValue_scannable 8 rfl]
   refine wpAny_pure ?_
   have e:plainKind (Value.str x tk)=false:=rfl
   rw[e]
   exact tail { t1 with plain:=false } (SetTable.fits_plain_off hf) hl rfl
  ·rw[if_neg hpl]
   refine wpAny_bind (wpAny_pure ?_)
   simp only[↓reduceIte]
   exact tail t1 hf hl (by simpa using hpl)
end
end Sg
namespace Sg
open PySem PyProof.Rows
section
variable {prog:Program}{w:World}{A:Around}{R:Result→Shared→Prop}
theorem fill_texts {I l S:Addr}{items:Array Value}{ss:List Str}(hh:A.in1.handled=none)(hlI:l≠I)(hSI:S≠I)(hSl:S≠l)(hS:StrsAre items.toList ss)(few:ss.length+1<scanBound) :
  ∀ (k i:Nat) (s:Shared),ss.length-i=k→i≤ss.length→s.heap.IsListIter I l i→s.heap.IsList l items→TSetD prog w s.heap S (metS (ss.take i)) →
   (∀ h' tk,(∀ b o,b≠S→b≠I→s.heap.get? b=some o→h'.get? b=some o)→TSetD prog w h' S (metS ss)→R (.ok (.ret .none)) { s with heap:=h',toks:=tk }) →
   codeAny (model prog w) A (.builtin "set.update.loop" ⟨[.ref S,.ref I],[]⟩) R s:=by
 have W:=Walks.list (prog:=prog) (w:=w) (A:=A.in1) hh I l hlI items
 have hlen:items.size=ss.length:=by
  have:∀ {vs:List Value} {us:List Str},StrsAre vs us→vs.length=us.length:=by
   intro vs us z
   induction z with
   |nil=>rfl
   |cons _ _ _ ih=>rw[List.length_cons,List.length_cons,ih]
  rw[← this hS,Array.length_toList]
 intro k
 induction k with
 |zero =>
  intro i s hk hi it hl T hR
  have e:i=ss.length:=by lia
  subst e
  rw[List.take_length] at T
  refine codeAny_builtin PyProof.Rows.F.entry_set_update_loop ?_
  rw[Around.under_plainId PyProof.Rows.F.plain_set_update_loop _]
  show wpAny _ A.in1 (pyNext (.ref I)>>=_) _ _ s
  refine wpAny_bind (W.done s _ _ (by rw[hlen]; exact⟨it,hl⟩) fun h' tk kp=>?_)
  show wpAny _ A.in1 (ret Value.none) _ _ _
  refine wpAny_pure (hR h' tk (fun b o _ hb e=>kp b o (by simp[hb]) e) (T.keep fun o e=>kp S o (by simp[hSI]) e))
 |succ k ih =>
  intro i s hk hi it hl T hR
  have hlt:i<ss.length:=by lia
  refine codeAny_builtin PyProof.Rows.F.entry_set_update_loop ?_
  rw[Around.under_plainId PyProof.Rows.F.plain_set_update_loop _]
  show wpAny _ A.in1 (pyNext (.ref I)>>=_) _ _ s
  refine wpAny_bind (W.item i s _ _ (by lia) ⟨it,hl⟩ fun v h1 tk1 hv st1 kp=>?_)
  obtain⟨it1,hl1⟩:=st1
  have hvs:∃ u,v=.str ss[i] u:=by
   have hz:∀ {vs:List Value} {us:List Str},StrsAre vs us→∀ (i:Nat) (v:Value) (hi:i<us.length),vs[i]?=some v→∃ u,v=.str us[i] u:=by
    intro vs us z
    induction z with
    |nil=>intro i v hi; exact absurd hi (by simp)
    |cons x t _ ih =>
     intro i v hi e
     cases i with
     |zero =>
      simp only[List.getElem?_cons_zero,Option.some.injEq] at e
      exact⟨t,e.symm⟩
     |succ i =>
      simp only[List.getElem?_cons_succ] at e
      simp only[List.getElem_cons_succ]
      exact ih i v (by simpa using hi) e
   exact hz hS i v hlt (by rw[Array.getElem?_toList]; exact hv)
  obtain⟨u,rfl⟩:=hvs
  show wpAny _ A.in1 (holding [Value.str ss[i] u] (setAdd S (.str ss[i] u))>>=_) _ _ _
  have T1:TSetD prog w h1 S (metS (ss.take i)):=T.keep fun o e=>kp S o (by simp[hSI]) e
  refine wpAny_bind (wpAny_holding (add_text (s:={ s with heap:=h1,toks:=tk1 }) T1 ?_ fun h2 b sb T2=>?_))
  ·have:=metS_len (ss.take i)
   rw[List.length_take] at this
   lia
  ·have e3:addS (metS (ss.take i)) ss[i]=metS (ss.take (i+1)):=by
    rw[← metS_snoc]
    congr 1
    rw[List.take_succ,List.getElem?_eq_getElem hlt]
    rfl
   rw[e3] at T2
   have x2:∀ b o,b≠S→h1.get? b=some o→h2.get? b=some o:=fun b o hb e=>by rw[sb.2 b hb]; exact e
   refine wpAny_pure ⟨plainId_quiet PyProof.Rows.F.plain_set_update_loop _,ih (i+1) { s with heap:=h2,toks:=tk1+1 } (by lia) hlt
    (it1.at fun o e=>x2 I o (Ne.symm hSI) e) (hl1.at fun o e=>x2 l o (Ne.symm hSl) e) T2 fun h3 tk3 kp3 T3=>?_⟩
   exact hR h3 tk3 (fun b o hb hb2 e=>kp3 b o hb hb2 (x2 b o hb (kp b o (by simp[hb2]) e))) T3
end
section
variable {prog:Program}{w:World}{A:Around}{E:Value→Shared→Prop}{s:Shared}
theorem new_set {a:Value}{Q₁:Value→Shared→Prop}
  (h:Q₁ (.ref s.heap.objs.size) { s with heap:=s.heap.push { cls:=.type "set",dict:=none,data:=.set #[] 0 (.fresh 0 0 (!(w.params.followText "set-order"))) } }) :
  codeAny (model prog w) A (.call (.builtin "set.__new__") ⟨[.type "set",a],[]⟩) (wants Q₁ E) s:=by
 refine codeAny_of_tree ?_
 show wpAny _ A.in1 (do checkBuiltinCall "set.__new__" ⟨[.type "set",a],[]⟩; again (.builtin "set.__new__" ⟨[.type "set",a],[]⟩)) _ _ s
 refine wpAny_bind (wpAny_of_eq (F.newCall_set_1 a) (wpAny_pure ⟨plainId_quiet F.plain_set_new _,codeAny_builtin F.entry_set_new ?_⟩))
 rw[Around.under_plainId F.plain_set_new _]
 unfold Builtin.«set.__new__» Builtin.Frozenset.newClass
 have hsub':=sub_set_self
 obtain⟨hp,g,d,tk,os⟩:=s
 dsimp only
 wp_walk
 refine wpAny_askSetting (wpAny_pure ?_)
 dsimp only
 simp only[newObj]
 exact wpAny_bind (wpAny_alloc (wpAny_pure (wpAny_pure h)))
abbrev bareSet (w:World):Obj:={ cls:=.type "set",dict:=none,data:=.set #[] 0 (.fresh 0 0 (!(w.params.followText "set-order"))) }
set_option maxHeartbeats 8000000 in
theorem call_set_texts {l:Addr}{items:Array Value}{ss:List Str}{Q:Value→Shared→Prop}(hh:A.handled=none)(hl:s.heap.IsList l items)(hS:StrsAre items.toList ss)(few:ss.length+1<scanBound)
  (h:∀ (h':Heap) (tk:Nat),TSetD prog w h' s.heap.objs.size (metS ss)→(∀ b o,s.heap.get? b=some o→h'.get? b=some o)→Q (.ref s.heap.objs.size) { s with heap:=h',toks:=tk }) :
  wpAny (model prog w) A (call (.type "set") [.ref l]) Q E s:=by
 obtain⟨c,tl,hmro⟩:=F.called_set.mro
 have made:=F.called_set.made
 have subs:=F.called_set.sub
 refine wpAny_call (codeAny_of_tree ?_)
 show wpAny _ _ (callAny (.type "set") _) _ _ _
 refine wpAny_pure ⟨Code.quiet_builtin _ (by decide +kernel),codeAny_builtin F.entry_type_call ?_⟩
 rw[Around.under_plain (weight_type_call_type "set" [.ref l] []) rfl]
 have noType:=F.called_set.notType
 have creates:=F.called_set.canCreate
 have tcall:=F.typeCall_set_1 (.ref l)
 repeat (any_goals (first | assumption | wp_step))
 refine codeAny_mono (new_set (a:=.ref l) (E:=E) (Q₁:=fun obj s₁=>obj=.ref s.heap.objs.size∧s₁={ s with heap:=s.heap.push (bareSet w) }) ⟨rfl,rfl⟩) fun r s₁ hr=>?_
 cases r with
 |error e=>exact hr
 |ok fl =>
  cases fl with
  |ret obj =>
   obtain⟨rfl,rfl⟩:=hr
   have oS:(s.heap.push (bareSet w)).get? s.heap.objs.size=some (bareSet w):=Heap.get?_push_size _ rfl
   have tS:Shared.TypeIs { s with heap:=s.heap.push (bareSet w) } (.ref s.heap.objs.size) "set":=⟨_,oS,rfl⟩
   have look:=F.called_set.init.lookup
   have bnd:=F.called_set.init.bind (.ref s.heap.objs.size)
   repeat (any_goals (first | assumption | wp_step))
   refine codeAny_mono (codeAny_call_builtin (R:=wants (fun r s₂=>r=.none∧∃ h' tk,s₂={ s with heap:=h',toks:=tk }∧TSetD prog w h' s.heap.objs.size (metS ss) ∧
     ∀ b o,s.heap.get? b=some o→h'.get? b=some o) E) F.called_set.init.plain F.entry_set_init (check_set_init_1 tS ?_)) fun r₂ s₂ hr₂=>?_
   ·obtain⟨ol,hol,cl,nl,dl⟩:=hl
    obtain⟨ocls,odict,odata,oslots⟩:=ol
    simp only at cl dl
    subst cl; subst dl
    have hol':(s.heap.push (bareSet w)).get? l=some { cls:=.type "list",dict:=odict,data:=.seq items nl,slots:=oslots }:=Heap.get?_push_of_some _ hol
    have no1:=F.sub_list_set
    have no2:=F.sub_list_frozenset
    have no3:(Value.type "list" == Value.type "dict")=false:=by decide
    have hl1:(s.heap.push (bareSet w)).IsList l items:=⟨_,hol',rfl,nl,rfl⟩
    unfold Builtin.«set.__init__» noKeywords Builtin.Frozenset.updateFrom
    generalize hPI:pyIter=PI
    wp_walk
    subst hPI
    refine wpAny_pyIter_list hl1 ?_
    refine wpAny_bind (wpAny_runValue ?_)
    have ls:l<s.heap.objs.size:=Heap.lt_size hol
    have zs:(s.heap.push (bareSet w)).objs.size=s.heap.objs.size+1:=Heap.size_push ..
    refine fill_texts (by simp[hh]) (by rw[zs]; exact Nat.ne_of_lt (Nat.lt_succ_of_lt ls)) (by rw[zs]; exact Nat.ne_of_lt (Nat.lt_succ_self _)) (Nat.ne_of_gt ls) hS few (ss.length-0) 0 _ rfl (Nat.zero_le _)
     ⟨_,Heap.get?_push_size _ rfl,rfl,rfl⟩ (hl1.push _) ?t0 ?fin
    case t0 =>
     refine⟨#[],0,_,⟨⟨_,Heap.get?_push_of_some _ oS,⟨rfl,rfl,rfl⟩,rfl⟩,fun e m=>absurd m (by simp),by decide,rfl,rfl,.inl rfl⟩,?_⟩
     exact List.Perm.refl _
    case fin =>
     intro h' tk kp T
     show wpAny _ _ _ _ _ _
     refine wpAny_pure ?_
     show wpAny _ _ (ret Value.none) _ _ _
     refine wpAny_pure ⟨rfl,h',tk,rfl,T,fun b o e=>?_⟩
     have hb:b<s.heap.objs.size:=Heap.lt_size e
     exact kp b o (Nat.ne_of_lt hb) (by rw[zs]; exact Nat.ne_of_lt (Nat.lt_succ_of_lt hb)) (Heap.get?_push_of_some _ (Heap.get?_push_of_some _ e))
   ·cases r₂ with
    |error e=>exact hr₂
    |ok fl₂ =>
     cases fl₂ with
     |ret r =>
      obtain⟨rfl,h',tk,rfl,T,kp⟩:=hr₂
      repeat (any_goals (first | assumption | wp_step))
      exact h _ _ T kp
     |_=>exact hr₂.elim
  |_=>exact hr.elim
end
end Sg
namespace Sg
open PySem PyProof.Rows
theorem entry_set_iter:entryFor table "set.__iter__"=some Builtin.«frozenset.__iter__» :=
 entryFor_alias (id':="frozenset.__iter__") (by kernel_rfl) (by first | rfl | decide +kernel) (by decide +kernel) (by kernel_rfl)
theorem slot_setit_next:Slot "set_iterator" "__next__" "set_iterator.__next__":=.of (owner:="set_iterator") (n:="__next__") (by rw[typeLookup_type,builtinLookup_eq_fast]; kernel_rfl) (by decide +kernel) (by decide +kernel) (by decide +kernel) (by first | exact .inl (by decide +kernel) | exact .inr (by decide +kernel)) (by rw[isSubtype_type]; kernel_rfl)
theorem entry_setit_next:entryFor table "set_iterator.__next__"=some Builtin.«set_iterator.__next__»:=entryFor_of_tree (by kernel_rfl)
theorem args_setit_next (a:Value):argsOk "set_iterator.__next__" ⟨[a],[]⟩:=by unfold argsOk; kernel_rfl
theorem set_len:typeLookup (.type "set") "__len__"=pure (some (.builtin "set.__len__")):=by rw[typeLookup_type,builtinLookup_eq_fast]; kernel_rfl
theorem perm_pick {α:Type}:∀ (l:List α) (i:Nat) (h:i<l.length),(l[i]::l.eraseIdx i).Perm l
 |[],i,h=>absurd h (by simp)
 |x::l,0,h=>List.Perm.refl _
 |x::l,i+1,h=>by
  have h':i<l.length:=by simpa using h
  show (l[i]::x::l.eraseIdx i).Perm (x::l)
  exact (List.Perm.swap x l[i] _).trans ((perm_pick l i h').cons x)
section
variable {prog:Program}{w:World}{A:Around}{E:Value→Shared→Prop}{s:Shared}
theorem wpAny_choose {M:Model}{src:Source}{n:Nat}{Q:Nat→Shared→Prop}(hn:n≠0)(h:∀ i,i<n→Q i { s with drawn:=s.drawn.bump src }):wpAny M A (choose src n) Q E s:=by
 intro Γ p hΓ
 show Sem.wp M Γ (.choose src n .pure) _ _ _ _
 rw[Sem.wp_choose]
 refine⟨hn,?_⟩
 exact h _ (Nat.mod_lt _ (Nat.pos_of_ne_zero hn))
theorem wpAny_drawOrder {M:Model}{α:Type}:∀ (n:Nat) (xs:List α) (s:Shared) (Q:List α→Shared→Prop),n=xs.length→(∀ ys d,ys.Perm xs→Q ys { s with drawn:=d })→wpAny M A (drawOrder n xs) Q E s
 |0,xs,s,Q,e,h=>by
  have:xs=[]:=List.eq_nil_of_length_eq_zero e.symm
  subst this
  exact wpAny_pure (h [] s.drawn (List.Perm.refl _))
 |n+1,[],s,Q,e,h=>by cases e
 |n+1,x::xs,s,Q,e,h=>by
  show wpAny M A (choose .order (x::xs).length>>=_) Q E s
  refine wpAny_bind (wpAny_choose (by simp) fun i hi=>?_)
  rw[List.getElem?_eq_getElem hi]
  dsimp only
  refine wpAny_bind (wpAny_drawOrder n ((x::xs).eraseIdx i) _ _ ?_ fun ys d hp=>wpAny_pure ?_)
  ·rw[List.length_eraseIdx_of_lt hi]
   simp only[List.length_cons] at e ⊢
   lia
  ·have hq:((x::xs)[i]::ys).Perm (x::xs):=(List.Perm.cons _ hp).trans (perm_pick _ i hi)
   exact h _ d hq
theorem pick_go {α:Type}(next:Nat→Nat):∀ (f k:Nat) (left:List α) (out:Array α),f=left.length→(pickOrder.go next f k left out).toList.Perm (out.toList++left)
 |0,k,left,out,e=>by
  have:left=[]:=List.eq_nil_of_length_eq_zero e.symm
  subst this
  simp[pickOrder.go]
 |f+1,k,left,out,e=>by
  unfold pickOrder.go
  have hlt:next k%left.length<left.length:=Nat.mod_lt _ (by lia)
  rw[List.getElem?_eq_getElem hlt]
  dsimp only
  refine (pick_go next f (k+1) _ _ (by rw[List.length_eraseIdx_of_lt hlt]; lia)).trans ?_
  rw[Array.toList_push,List.append_assoc]
  refine List.Perm.append_left _ ?_
  exact perm_pick _ _ hlt
theorem pick_perm {α:Type}(next:Nat→Nat)(xs:Array α):(pickOrder next xs).toList.Perm xs.toList:=by
 have:=pick_go next xs.size 0 xs.toList #[] (by simp)
 simpa [pickOrder] using this
end
end Sg
namespace Sg
open PySem PyProof.Rows
def IsSetIter (h:Heap)(it:Addr)(first:Value)(i n ep:Nat)(a:Addr):Prop :=
 ∃ o,h.get? it=some o∧o.cls=.type "set_iterator"∧o.data=.fields #[first,.int i 0,.ref a,.int n 0,.int ep 0]
section
variable {prog:Program}{w:World}{A:Around}{E:Value→Shared→Prop}{s:Shared}{it a:Addr}{first:Value}{i n ep:Nat}{es:Array (Int×Value)}{t:SetTable}
theorem IsSetIter.ty (h:IsSetIter s.heap it first i n ep a):s.TypeIs (.ref it) "set_iterator":=let ⟨o,h1,h2,_⟩:=h; ⟨o,h1,h2⟩
theorem IsSetIter.keep {h h':Heap}(x:IsSetIter h it first i n ep a)(k:∀ o,h.get? it=some o→h'.get? it=some o):IsSetIter h' it first i n ep a:=let ⟨o,h1,r⟩:=x; ⟨o,k o h1,r⟩
theorem IsSetIter.field {h:Heap} (x:IsSetIter h it first i n ep a) (f:Array Value→Array Value):∃ o,(h.update it (Obj.mapFields f)).get? it=some o∧o.cls=.type "set_iterator"∧o.data=.fields (f #[first,.int i 0,.ref a,.int n 0,.int ep 0]):=by
 obtain⟨o,ho,hc,hd⟩:=x
 exact⟨_,Heap.get?_update_self _ ho (Obj.isFreed_of_fields (Obj.data_mapFields hd _)),(Obj.cls_mapFields ..).trans hc,by rw[Obj.data_mapFields hd]⟩
theorem stop_met {Q:Option Value→Shared→Prop}{s':Shared}(hh:A.handled=none)(hs:Heap.ExtBut it s.heap s'.heap)(hrest:s'={ s with heap:=s'.heap })
  (hQ:∀ h',Heap.ExtBut it s.heap h'→Q none { s with heap:=h' }) {P:Fin→Shared→Prop} :
  wpAny (model prog w) A.in1 (do raiseNew (α:=Fin) (← newExc (.type "StopIteration") [])) P (fun e s₂=>wpAny (model prog w) A (do if ← isInstance e (.type "StopIteration") then pure none else throw e) Q E s₂) s':=by
 refine wpAny_bind ?_
 simp only[newExc,newTuple]
 refine wpAny_bind (wpAny_newObj_type ?_ (by size_fits))
 refine wpAny_bind (m:=firstArgMember _ _) (wpAny_of_eq (a:=Value.none) (by first | rfl | (simp only[firstArgMember]; rfl)) ?_)
 refine wpAny_newObj_type ?_ (by size_fits)
 simp only[raiseNew]
 refine wpAny_bind (wpAny_handled ?_)
 rw[show A.in1.handled=none from hh]
 refine wpAny_bind (wpAny_pure (wpAny_throw ?_))
 refine wpAny_bind (wpAny_isInstance (T:="StopIteration") (b:=true) ⟨_,Heap.get?_push_size _ rfl,rfl⟩ isSubtype_stop ?_)
 rw[hrest]
 exact wpAny_pure (hQ _ ((hs.push _).push _))
theorem next_int {slot:Nat}{r:Option (Value×Nat)}{Q:Option Value→Shared→Prop}(hh:A.handled=none)(hit:IsSetIter s.heap it (.int slot 0) i n ep a)(T:TSet prog w s.heap a es ep t)(hn:es.size=n)
  (hN:∀ (A':Around) (E':Value→Shared→Prop) (Q':Option (Value×Nat)→Shared→Prop),Q' r s→wpAny (model prog w) A' (setNext a slot i ep) Q' E' s)
  (hS:∀ x nxt,r=some (x,nxt)→∀ h',IsSetIter h' it (.int nxt 0) (i+1) n ep a→Heap.SameBut it s.heap h'→Q (some x) { s with heap:=h' })
  (hE:r=none→∀ h',Heap.ExtBut it s.heap h'→Q none { s with heap:=h' }):wpAny (model prog w) A (pyNext (.ref it)) Q E s:=by
 obtain⟨o,ho,hc,hd⟩:=id hit
 obtain⟨oS,hoS,hex,hdS⟩:=T.obj
 unfold pyNext
 refine wpAny_bind (wpAny_attempt (wpAny_callSpecial?_slot (name:=Str.ofString "__next__") hit.ty slot_setit_next (wpAny_call_entry slot_setit_next hit.ty entry_setit_next ?_ (args_setit_next _))))
 refine wpAny_bind (wpAny_pure ?_)
 refine wpAny_bind (wpAny_fieldsOf ho hd ?_)
 show wpAny _ _ (setEntries a>>=_) _ _ s
 refine wpAny_bind (wpAny_setEntries_of hoS hdS T.fits ?_)
 rw[if_neg (by rw[hn]; simp)]
 show wpAny _ _ (setNext a ((slot:Int).toNat) ((i:Int).toNat) ((ep:Int).toNat)>>=_) _ _ s
 refine wpAny_bind (hN _ _ _ ?_)
 cases r with
 |none =>
  show wpAny _ _ (setField (.ref it) 2 .none>>=_) _ _ s
  refine wpAny_bind (wpAny_setField ho hd (by simp) ?_)
  exact stop_met (s:=s) hh (Heap.SameBut.update ..).extBut rfl (hE rfl)
 |some p =>
  obtain⟨x,nxt⟩:=p
  show wpAny _ _ (setField (.ref it) 0 (rawInt nxt)>>=_) _ _ s
  refine wpAny_bind (wpAny_setField ho hd (by simp) ?_)
  obtain⟨o1,ho1,hc1,hd1⟩:=hit.field (fun vs=>vs.setIfInBounds 0 (rawInt nxt))
  refine wpAny_bind (wpAny_setField ho1 hd1 (by simp) ?_)
  refine wpAny_pure ⟨_,rfl,wpAny_pure (hS x nxt rfl _ ?_ ((Heap.SameBut.update ..).trans (Heap.SameBut.update ..)))⟩
  exact⟨_,Heap.get?_update_self _ ho1 (Obj.isFreed_of_fields (Obj.data_mapFields hd1 _)),(Obj.cls_mapFields ..).trans hc1,by rw[Obj.data_mapFields hd1]; simp[rawInt]⟩
theorem next_drawn {P:Addr}{pl:List Nat}{Q:Option Value→Shared→Prop}(hh:A.handled=none)(hit:IsSetIter s.heap it (.ref P) i n ep a)(T:TSet prog w s.heap a es ep t)(hn:es.size=n)
  {oP:Obj} {nP:Nat} (hP:s.heap.get? P=some oP) (dP:oP.data=.seq (pl.map fun (k:Nat)=>Value.int (k:Int) 0).toArray nP)
  (hS:∀ k e,pl[i]?=some k→es[k]?=some e→∀ h',IsSetIter h' it (.ref P) (i+1) n ep a→Heap.SameBut it s.heap h'→Q (some e.2) { s with heap:=h' })
  (hin:∀ k∈pl,k<es.size)
  (hE:pl[i]?=none→∀ h',Heap.ExtBut it s.heap h'→Q none { s with heap:=h' }):wpAny (model prog w) A (pyNext (.ref it)) Q E s:=by
 obtain⟨o,ho,hc,hd⟩:=id hit
 obtain⟨oS,hoS,hex,hdS⟩:=T.obj
 unfold pyNext
 refine wpAny_bind (wpAny_attempt (wpAny_callSpecial?_slot (name:=Str.ofString "__next__") hit.ty slot_setit_next (wpAny_call_entry slot_setit_next hit.ty entry_setit_next ?_ (args_setit_next _))))
 refine wpAny_bind (wpAny_pure ?_)
 refine wpAny_bind (wpAny_fieldsOf ho hd ?_)
 show wpAny _ _ (setEntries a>>=_) _ _ s
 refine wpAny_bind (wpAny_setEntries_of hoS hdS T.fits ?_)
 rw[if_neg (by rw[hn]; simp)]
 show wpAny _ _ (seqItems? (.ref P)>>=_) _ _ s
 refine wpAny_bind (wpAny_seqItems hP dP ?_)
 dsimp only
 have eg:(pl.map fun (k:Nat)=>Value.int (k:Int) 0).toArray[(i:Int).toNat]?=(pl[i]?).map fun (k:Nat)=>Value.int (k:Int) 0:=by simp
 rw[eg]
 cases hp:pl[i]? with
 |none =>
  show wpAny _ _ (setField (.ref it) 0 (rawInt 0)>>=_) _ _ s
  refine wpAny_bind (wpAny_setField ho hd (by simp) ?_)
  obtain⟨o1,ho1,hc1,hd1⟩:=hit.field (fun vs=>vs.setIfInBounds 0 (rawInt 0))
  refine wpAny_bind (wpAny_setField ho1 hd1 (by simp) ?_)
  exact stop_met (s:=s) hh ((Heap.SameBut.update ..).trans (Heap.SameBut.update ..)).extBut rfl (hE hp)
 |some k =>
  have hk:k<es.size:=hin k (List.mem_of_getElem? hp)
  show wpAny _ _ (setNextDrawn a ((k:Int).toNat) ((ep:Int).toNat)>>=_) _ _ s
  unfold setNextDrawn
  refine wpAny_bind (wpAny_bind (wpAny_setState_of hoS hdS T.fits ?_))
  dsimp only
  rw[if_neg (by simp)]
  have ek:es[(k:Int).toNat]?=some es[k]:=by simp[hk]
  rw[ek]
  refine wpAny_pure ?_
  refine wpAny_bind (wpAny_setField ho hd (by simp) ?_)
  refine wpAny_pure ⟨_,rfl,wpAny_pure (hS k es[k] hp (by simp[hk]) _ ?_ (Heap.SameBut.update ..))⟩
  obtain⟨o1,ho1,hc1,hd1⟩:=hit.field (fun vs=>vs.setIfInBounds 1 (rawInt ((i:Int)+1)))
  exact⟨o1,ho1,hc1,by rw[hd1]; simp[rawInt]⟩
end
end Sg
namespace Sg
open PySem PyProof.Rows
theorem slot_setit_iter:Slot "set_iterator" "__iter__" "set_iterator.__iter__":=.of (owner:="set_iterator") (n:="__iter__") (by rw[typeLookup_type,builtinLookup_eq_fast]; kernel_rfl) (by decide +kernel) (by decide +kernel) (by decide +kernel) (by first | exact .inl (by decide +kernel) | exact .inr (by decide +kernel)) (by rw[isSubtype_type]; kernel_rfl)
theorem entry_setit_iter:entryFor table "set_iterator.__iter__"=some Builtin.«dict_keyiterator.__iter__» :=
 entryFor_alias (id':="dict_keyiterator.__iter__") (by kernel_rfl) (by first | rfl | decide +kernel) (by decide +kernel) (by kernel_rfl)
theorem args_setit_iter (a:Value):argsOk "set_iterator.__iter__" ⟨[a],[]⟩:=by unfold argsOk; kernel_rfl
section
variable {prog:Program}{w:World}{A:Around}{E:Value→Shared→Prop}{s:Shared}{it a:Addr}{first:Value}{i n ep:Nat}{es:Array (Int×Value)}{t:SetTable}
theorem iter_self {Q:Value→Shared→Prop}(hit:IsSetIter s.heap it first i n ep a)(h:Q (.ref it) s):wpAny (model prog w) A (pyIter (.ref it)) Q E s:=by
 refine wpAny_pyIter_slot hit.ty slot_setit_iter (wpAny_call_entry slot_setit_iter hit.ty entry_setit_iter ?_ (args_setit_iter _))
 show wpAny _ _ (ret (.ref it)) _ _ s
 exact wpAny_pure ⟨_,rfl,"set_iterator",_,hit.ty,slot_setit_next.lookup,h⟩
theorem setNext_text {slot given:Nat} {Q:Option (Value×Nat)→Shared→Prop} (hb:w.params.followText "set-order"=true) (T:TSet prog w s.heap a es ep t)
  (h:Q (((pickOrder (w.params.setOrder a ep) es)[given]?).map fun e=>(e.2,slot)) s):wpAny (model prog w) A (setNext a slot given ep) Q E s:=by
 obtain⟨o,ho,hex,hd⟩:=T.obj
 unfold setNext
 refine wpAny_bind (wpAny_setState_of ho hd T.fits ?_)
 dsimp only
 refine wpAny_bind ?_
 unfold setsByText
 refine wpAny_bind (wpAny_askSetting (wpAny_pure ?_))
 have hb':(⟨(model prog w).prog,(model prog w).w.params⟩:Setting).params.followText "set-order"=true:=hb
 rw[hb',if_pos rfl,if_neg (by simp)]
 refine wpAny_bind ?_
 unfold setWalk
 refine wpAny_bind (wpAny_setState_of ho hd T.fits ?_)
 dsimp only
 refine wpAny_bind ?_
 unfold setsByText
 refine wpAny_bind (wpAny_askSetting (wpAny_pure ?_))
 rw[hb',if_pos rfl]
 refine wpAny_bind (wpAny_askSetting (wpAny_pure ?_))
 exact wpAny_pure h
theorem setNext_few {slot given:Nat} {Q:Option (Value×Nat)→Shared→Prop} (hb:w.params.followText "set-order"=false) (T:TSet prog w s.heap a es ep t) (h1:es.size≤1)
  (h:Q (match es[SetTable.below t.place slot]?,t.place[SetTable.below t.place slot]? with | some (_,x),some j=>some (x,j+1) | _,_=>none) s):wpAny (model prog w) A (setNext a slot given ep) Q E s:=by
 obtain⟨o,ho,hex,hd⟩:=T.obj
 unfold setNext
 refine wpAny_bind (wpAny_setState_of ho hd T.fits ?_)
 dsimp only
 refine wpAny_bind ?_
 unfold setsByText
 refine wpAny_bind (wpAny_askSetting (wpAny_pure ?_))
 have hb':(⟨(model prog w).prog,(model prog w).w.params⟩:Setting).params.followText "set-order"=false:=hb
 have hl:t.led=true:=by rw[T.led,hb]; rfl
 rw[hb',if_neg (by simp)]
 have hdr:(!t.plain&&decide (es.size > 1))=false:=by
  have:¬ es.size > 1:=by lia
  simp[this]
 show wpAny _ _ (if (!t.plain&&decide (es.size > 1))=true then _ else _) _ _ _
 rw[hdr,if_neg (by simp)]
 show wpAny _ _ ((if (!t.led&&!es.isEmpty)=true then unsupported "set:maker-not-led" else pure ())>>=_) _ _ _
 rw[hl,if_neg (by simp)]
 refine wpAny_bind (wpAny_pure ?_)
 exact wpAny_pure h
theorem below_one_lo (j:Nat):SetTable.below #[j] 0=0:=by
 simp[SetTable.below,SetTable.below.go]
theorem below_one_hi (j:Nat):SetTable.below #[j] (j+1)=1:=by
 simp[SetTable.below,SetTable.below.go]
theorem walk_text (hh:A.handled=none) (hb:w.params.followText "set-order"=true) (I a:Addr) (hne:a≠I) (es:Array (Int×Value)) (ep:Nat) (t:SetTable) :
  Walks prog w A I [I,a] [I] es.size (fun i v=>((pickOrder (w.params.setOrder a ep) es).toList.map (·.2))[i]?=some v) (fun i h=>IsSetIter h I (.int (0:Nat) 0) i es.size ep a∧TSet prog w h a es ep t) where
 sub:=fun b hb=>by simp at hb; simp[hb]
 frame:=fun _ _ _ st hk=>⟨st.1.keep fun o e=>hk I (by simp) o e,st.2.keep fun o e=>hk a (by simp) o e⟩
 item:=fun i s Q E hi st hQ=>by
  have hlen:(pickOrder (w.params.setOrder a ep) es).size=es.size:=by
   have:=(pick_perm (w.params.setOrder a ep) es).length_eq
   simpa using this
  refine next_int hh st.1 st.2 rfl (fun A' E' Q' q=>setNext_text hb st.2 q) (fun x nxt e h' hit sb=>?_) fun e=>?_
  ·rw[Array.getElem?_eq_getElem (by lia)] at e
   simp only[Option.map_some,Option.some.injEq,Prod.mk.injEq] at e
   obtain⟨e1,e2⟩:=e
   subst e2
   refine hQ x h' s.toks ?_ ⟨hit,st.2.keep fun o e=>sb.extBut a o hne e⟩ fun b o hb e=>sb.extBut b o (fun z=>hb (by simp[z])) e
   rw[List.getElem?_map,Array.getElem?_toList,Array.getElem?_eq_getElem (by lia)]
   simp[e1]
  ·rw[Array.getElem?_eq_getElem (by lia)] at e
   cases e
 done:=fun s Q E st hQ=>by
  have hlen:(pickOrder (w.params.setOrder a ep) es).size=es.size:=by
   have:=(pick_perm (w.params.setOrder a ep) es).length_eq
   simpa using this
  refine next_int hh st.1 st.2 rfl (fun A' E' Q' q=>setNext_text hb st.2 q) (fun x nxt e h' hit sb=>?_) fun e h' he=>?_
  ·rw[Array.getElem?_eq_none (by lia)] at e
   cases e
  ·exact hQ h' s.toks fun b o hb e=>he b o (fun z=>hb (by simp[z])) e
 self:=fun _ _ _ _ st hQ=>iter_self st.1 hQ
theorem walk_few (hh:A.handled=none) (hb:w.params.followText "set-order"=false) (I a:Addr) (hne:a≠I) (es:Array (Int×Value)) (h1:es.size≤1) (ep:Nat) (t:SetTable) :
  Walks prog w A I [I,a] [I] es.size (fun i v=>(es.toList.map (·.2))[i]?=some v)
   (fun i h=>(∃ slot,IsSetIter h I (.int (slot:Nat) 0) i es.size ep a∧((i=0∧slot=0)∨(i=1∧slot=t.place.getD 0 0+1)))∧TSet prog w h a es ep t) where
 sub:=fun b hb=>by simp at hb; simp[hb]
 frame:=fun _ _ _ st hk=>⟨let ⟨sl,x,y⟩:=st.1; ⟨sl,x.keep fun o e=>hk I (by simp) o e,y⟩,st.2.keep fun o e=>hk a (by simp) o e⟩
 item:=fun i s Q E hi st hQ=>by
  obtain⟨⟨slot,it,hsl⟩,T⟩:=st
  have hi0:i=0:=by lia
  subst hi0
  have hs0:slot=0:=by lia
  subst hs0
  have hz:es.size=1:=by lia
  have hpl:t.place.size=1:=by
   have:=T.fits
   simp only[SetTable.fits,Bool.and_eq_true,beq_iff_eq] at this
   lia
  obtain⟨j,hj⟩:∃ j,t.place=#[j]:=⟨t.place[0],by
   apply Array.ext
   ·simp[hpl]
   ·intro i h1 h2
    have:i=0:=by simp at h2; exact h2
    subst this
    rfl⟩
  refine next_int hh it T rfl (fun A' E' Q' q=>setNext_few hb T h1 q) (fun x nxt e h' hit sb=>?_) fun e=>?_
  ·rw[hj,below_one_lo,Array.getElem?_eq_getElem (by lia)] at e
   simp only[List.size_toArray,List.length_cons,List.length_nil,Nat.zero_add,Nat.lt_add_one,Array.getElem?_eq_getElem,List.getElem_toArray,List.getElem_cons_zero,Option.some.injEq,Prod.mk.injEq] at e
   refine hQ x h' s.toks ?_ ⟨⟨nxt,hit,.inr ⟨rfl,?_⟩⟩,T.keep fun o e=>sb.extBut a o hne e⟩ fun b o hb e=>sb.extBut b o (fun z=>hb (by simp[z])) e
   ·rw[List.getElem?_map,Array.getElem?_toList,Array.getElem?_eq_getElem (by lia)]
    simp[e.1]
   ·rw[hj]
    simp[← e.2]
  ·rw[hj,below_one_lo,Array.getElem?_eq_getElem (by lia)] at e
   simp at e
 done:=fun s Q E st hQ=>by
  obtain⟨⟨slot,it,hsl⟩,T⟩:=st
  have hpl:t.place.size=es.size:=by
   have:=T.fits
   simp only[SetTable.fits,Bool.and_eq_true,beq_iff_eq] at this
   lia
  refine next_int hh it T rfl (fun A' E' Q' q=>setNext_few hb T h1 q) (fun x nxt e h' hit sb=>?_) fun e h' he=>?_
  ·exfalso
   rcases hsl with ⟨z1,z2⟩ | ⟨z1,z2⟩
   ·have h0:es[SetTable.below t.place slot]?=none:=Array.getElem?_eq_none (by lia)
    rw[h0] at e
    cases e
   ·obtain⟨j,hj⟩:∃ j,t.place=#[j]:=⟨t.place[0],by
     apply Array.ext
     ·simp[hpl,z1]
     ·intro i h1 h2
      have:i=0:=by simp at h2; exact h2
      subst this
      rfl⟩
    rw[hj] at z2 e
    simp only[Array.getD_eq_getD_getElem?,List.getElem?_toArray,List.getElem?_cons_zero,Option.getD_some] at z2
    subst z2
    have h0:es[SetTable.below #[j] (j+1)]?=none:=by
     rw[below_one_hi]
     exact Array.getElem?_eq_none (by lia)
    rw[h0] at e
    cases e
  ·exact hQ h' s.toks fun b o hb e=>he b o (fun z=>hb (by simp[z])) e
 self:=fun _ _ _ _ st hQ=>let ⟨⟨sl,x,_⟩,_⟩:=st; iter_self x hQ
theorem walk_drawn (hh:A.handled=none)(I a P:Addr)(hne:a≠I)(hnP:P≠I)(es:Array (Int×Value))(ep:Nat)(t:SetTable)(pl:List Nat)(hpl:pl.Perm (List.range es.size))(oP:Obj)(nP:Nat)
  (dP:oP.data=.seq (pl.map fun (k:Nat)=>Value.int (k:Int) 0).toArray nP) :
  Walks prog w A I [I,a,P] [I] es.size (fun i v=>(pl.filterMap fun k=>(es[k]?).map (·.2))[i]?=some v) (fun i h=>IsSetIter h I (.ref P) i es.size ep a∧TSet prog w h a es ep t∧h.get? P=some oP) where
 sub:=fun b hb=>by simp at hb; simp[hb]
 frame:=fun _ _ _ st hk=>⟨st.1.keep fun o e=>hk I (by simp) o e,st.2.1.keep fun o e=>hk a (by simp) o e,hk P (by simp) _ st.2.2⟩
 item:=fun i s Q E hi st hQ=>by
  have hin:∀ k∈pl,k<es.size:=fun k m=>List.mem_range.mp (hpl.mem_iff.mp m)
  have hlen:pl.length=es.size:=by rw[hpl.length_eq,List.length_range]
  refine next_drawn hh st.1 st.2.1 rfl st.2.2 dP (fun k e hk he h' hit sb=>?_) hin fun e=>?_
  ·refine hQ e.2 h' s.toks ?_ ⟨hit,st.2.1.keep fun o e=>sb.extBut a o hne e,sb.extBut P _ hnP st.2.2⟩ fun b o hb e=>sb.extBut b o (fun z=>hb (by simp[z])) e
   have hfm:(pl.filterMap fun k=>(es[k]?).map (·.2))=pl.map fun k=>((es[k]?).map (·.2)).getD Value.none:=by
    have go:∀ l:List Nat,(∀ k∈l,k<es.size)→(l.filterMap fun k=>(es[k]?).map (·.2))=l.map fun k=>((es[k]?).map (·.2)).getD Value.none:=by
     intro l
     induction l with
     |nil=>intro _; rfl
     |cons k l ih =>
      intro hl
      rw[List.filterMap_cons,List.map_cons,Array.getElem?_eq_getElem (hl k List.mem_cons_self)]
      simp only[Option.map_some,Option.getD_some]
      rw[ih fun k m=>hl k (List.mem_cons_of_mem _ m)]
    exact go pl hin
   rw[hfm,List.getElem?_map,hk]
   simp[he]
  ·rw[List.getElem?_eq_getElem (by lia)] at e
   cases e
 done:=fun s Q E st hQ=>by
  have hin:∀ k∈pl,k<es.size:=fun k m=>List.mem_range.mp (hpl.mem_iff.mp m)
  have hlen:pl.length=es.size:=by rw[hpl.length_eq,List.length_range]
  refine next_drawn hh st.1 st.2.1 rfl st.2.2 dP (fun k e hk he h' hit sb=>?_) hin fun e h' he=>?_
  ·rw[List.getElem?_eq_none (by lia)] at hk
   cases hk
  ·exact hQ h' s.toks fun b o hb e=>he b o (fun z=>hb (by simp[z])) e
 self:=fun _ _ _ _ st hQ=>iter_self st.1 hQ
end
end Sg
namespace Sg
open PySem PyProof.Rows
section
variable {prog:Program}{w:World}{A:Around}{E:Value→Shared→Prop}{s:Shared}{it a:Addr}{first:Value}{i n ep:Nat}{es:Array (Int×Value)}{t:SetTable}
theorem TSet.ty (T:TSet prog w s.heap a es ep t):s.TypeIs (.ref a) "set":=let ⟨o,h1,h2,_⟩:=T.obj; ⟨o,h1,h2.1⟩
theorem filter_perm (es:Array (Int×Value)){pl:List Nat}(h:pl.Perm (List.range es.size)):(pl.filterMap fun k=>(es[k]?).map (·.2)).Perm (es.toList.map (·.2)):=by
 refine (h.filterMap _).trans (List.Perm.of_eq ?_)
 apply List.ext_getElem?
 intro i
 have go:∀ n,n≤es.size→((List.range n).filterMap fun k=>(es[k]?).map (·.2))=(es.toList.take n).map (·.2):=by
  intro n
  induction n with
  |zero=>intro _; rfl
  |succ n ih =>
   intro hn
   rw[List.range_succ,List.filterMap_append,ih (by lia),List.take_succ,List.map_append]
   congr 1
   rw[Array.getElem?_toList,Array.getElem?_eq_getElem (by lia)]
   simp[Array.getElem?_eq_getElem (show n<es.size by lia)]
 rw[go es.size (Nat.le_refl _),List.take_of_length_le (by simp)]
theorem iter_of_set {Q:Value→Shared→Prop}(T:TSet prog w s.heap a es ep t)
  (h:∀ (s':Shared) (I:Addr) (fp:List Addr) (ord:List Value) (St:Nat→Heap→Prop),Ext s.heap s'.heap→s'.gens=s.gens→s'.os=s.os→s'.toks=s.toks→s.heap.objs.size≤I →
   (∀ b∈fp,b=a∨s.heap.objs.size≤b)→(∀ A':Around,A'.handled=none→Walks prog w A' I fp [I] es.size (fun i v=>ord[i]?=some v) St)→St 0 s'.heap→ord.Perm (es.toList.map (·.2))→Q (.ref I) s') :
  wpAny (model prog w) A (pyIter (.ref a)) Q E s:=by
 obtain⟨o,ho,hex,hd⟩:=T.obj
 have ha:a<s.heap.objs.size:=Heap.lt_size ho
 refine wpAny_pyIter_slot T.ty F.slot_set_iter (wpAny_call_entry F.slot_set_iter T.ty entry_set_iter ?_ (F.args_set_iter_1 _))
 unfold Builtin.«frozenset.__iter__»
 refine wpAny_bind (m:=Builtin.Frozenset.slot0 "__iter__" _) (wpAny_of_eq (a:=a) rfl ?_)
 refine wpAny_bind ?_
 unfold Builtin.Frozenset.sizeOf
 refine wpAny_bind (wpAny_setEntries_of ho hd T.fits (wpAny_pure ?_))
 refine wpAny_bind ?_
 unfold setDrawn
 refine wpAny_bind (wpAny_setState_of ho hd T.fits ?_)
 dsimp only
 refine wpAny_bind ?_
 unfold setsByText
 refine wpAny_bind (wpAny_askSetting (wpAny_pure (wpAny_pure ?_)))
 show wpAny _ _ (if (!(w.params.followText "set-order")&&(!t.plain&&decide (es.size > 1)))=true then _ else _) _ _ _
 by_cases hq:(!(w.params.followText "set-order")&&(!t.plain&&decide (es.size > 1)))=true
 ·rw[if_pos hq]
  refine wpAny_bind (wpAny_drawOrder es.size (List.range es.size) _ _ (by simp) fun pl d hpl=>?_)
  have hz:pl.length≤sizeLine:=by
   rw[hpl.length_eq,List.length_range]
   exact fits_of_scanBound T.few
  refine wpAny_bind (wpAny_newTuple ?_ (by simpa using hz))
  refine wpAny_bind (wpAny_setEpoch_of (Heap.get?_push_of_some _ ho) hd T.fits ?_)
  refine wpAny_bind (wpAny_newObj_type (wpAny_pure ⟨_,rfl,"set_iterator",_,⟨_,Heap.get?_push_size _ rfl,rfl⟩,slot_setit_next.lookup,?_⟩))
  have zs:(s.heap.push { cls:=.type "tuple",data:=.seq (List.map (fun (i:Nat)=>rawInt i) pl).toArray }).objs.size=s.heap.objs.size+1:=Heap.size_push ..
  refine h _ _ [_,a,s.heap.objs.size] (pl.filterMap fun k=>(es[k]?).map (·.2)) _ (fun b o e=>Heap.get?_push_of_some _ (Heap.get?_push_of_some _ e)) rfl rfl rfl ?_ ?_
   (fun A' hA=>walk_drawn (prog:=prog) (w:=w) hA _ a s.heap.objs.size ?_ ?_ es ep t pl hpl { cls:=.type "tuple",data:=.seq (List.map (fun (i:Nat)=>rawInt i) pl).toArray } 0 rfl) ?_ (filter_perm es hpl)
  ·rw[zs]; exact Nat.le_succ _
  ·intro b hb
   simp only[List.mem_cons,List.not_mem_nil,or_false] at hb
   rcases hb with rfl | rfl | rfl
   ·rw[zs]; exact .inr (Nat.le_succ _)
   ·exact .inl rfl
   ·exact .inr (Nat.le_refl _)
  ·rw[zs]; exact Nat.ne_of_lt (Nat.lt_succ_of_lt ha)
  ·rw[zs]; exact Nat.ne_of_lt (Nat.lt_succ_self _)
  ·refine⟨⟨_,Heap.get?_push_size _ rfl,rfl,rfl⟩,T.keep fun o e=>Heap.get?_push_of_some _ (Heap.get?_push_of_some _ e),?_⟩
   exact Heap.get?_push_of_some _ (Heap.get?_push_size _ rfl)
 ·rw[if_neg hq]
  refine wpAny_bind (wpAny_pure ?_)
  refine wpAny_bind (wpAny_setEpoch_of ho hd T.fits ?_)
  refine wpAny_bind (wpAny_newObj_type (wpAny_pure ⟨_,rfl,"set_iterator",_,⟨_,Heap.get?_push_size _ rfl,rfl⟩,slot_setit_next.lookup,?_⟩))
  have i0:IsSetIter (s.heap.push { cls:=.type "set_iterator",data:=.fields [rawInt 0,rawInt 0,Value.ref a,rawInt es.size,rawInt ep].toArray }) s.heap.objs.size (.int (0:Nat) 0) 0 es.size ep a :=
   ⟨_,Heap.get?_push_size _ rfl,rfl,rfl⟩
  have T0:TSet prog w (s.heap.push { cls:=.type "set_iterator",data:=.fields [rawInt 0,rawInt 0,Value.ref a,rawInt es.size,rawInt ep].toArray }) a es ep t:=T.keep fun o e=>Heap.get?_push_of_some _ e
  have fp2:∀ b∈[s.heap.objs.size,a],b=a∨s.heap.objs.size≤b:=by
   intro b hb
   simp only[List.mem_cons,List.not_mem_nil,or_false] at hb
   rcases hb with rfl | rfl
   ·exact .inr (Nat.le_refl _)
   ·exact .inl rfl
  cases hb:w.params.followText "set-order" with
  |true =>
   exact h _ _ [s.heap.objs.size,a] _ _ (fun b o e=>Heap.get?_push_of_some _ e) rfl rfl rfl (Nat.le_refl _) fp2 (fun A' hA=>walk_text (prog:=prog) hA hb _ a (Nat.ne_of_lt ha) es ep t) ⟨i0,T0⟩ ((pick_perm _ es).map _)
  |false =>
   have h1:es.size≤1:=by
    rw[hb] at hq
    simp only[Bool.not_false,Bool.true_and,Bool.and_eq_true,Bool.not_eq_true',decide_eq_true_eq,not_and] at hq
    rcases T.plain with z | z
    ·lia
    ·have:=hq z; lia
   exact h _ _ [s.heap.objs.size,a] _ _ (fun b o e=>Heap.get?_push_of_some _ e) rfl rfl rfl (Nat.le_refl _) fp2 (fun A' hA=>walk_few (prog:=prog) hA hb _ a (Nat.ne_of_lt ha) es h1 ep t) ⟨⟨0,i0,.inl ⟨rfl,rfl⟩⟩,T0⟩ (List.Perm.refl _)
theorem items_list {P:Nat→Value→Prop}{ord:List Value}{acc:Array Value}(h:ItemsOf (fun i v=>ord[i]?=some v) acc ord.length):acc.toList=ord:=by
 apply List.ext_getElem?
 intro i
 by_cases hi:i<ord.length
 ·have hs:acc.size=ord.length:=h.1
  have e:=h.2 i acc[i] (by simp[hs,hi])
  rw[e,Array.getElem?_toList]
  simp[hs,hi]
 ·have hs:acc.size=ord.length:=h.1
  rw[List.getElem?_eq_none (by simp; lia),List.getElem?_eq_none (by lia)]
theorem collect_set {Q:List Value→Shared→Prop}(hh:A.handled=none)(T:TSet prog w s.heap a es ep t)
  (hQ:∀ s' vs,Ext s.heap s'.heap→s'.gens=s.gens→s'.os=s.os→vs.Perm (es.toList.map (·.2))→Q vs s'):wpAny (model prog w) A (collect (.ref a)) Q E s:=by
 obtain⟨o,ho,hex,hd⟩:=T.obj
 have ha:a<s.heap.objs.size:=Heap.lt_size ho
 have hn:es.size≤sizeLine:=fits_of_scanBound T.few
 unfold collect
 refine wpAny_bind (wpAny_runValue (codeAny_builtin F.entry_proto_collect ?_))
 rw[Around.under_plainId F.plain_proto_collect _]
 show wpAny _ A.in1 (newList []>>=fun l=>again (.builtin "list.__iadd__" ⟨[l,.ref a],[]⟩)) _ _ s
 refine wpAny_bind (wpAny_newObj_type ?_)
 refine wpAny_pure ⟨plainId_quiet F.plain_list_iadd _,codeAny_builtin F.entry_list_iadd ?_⟩
 rw[Around.under_plainId F.plain_list_iadd _]
 show wpAny _ A.in1 (Builtin.List.listExtendWith (.ref s.heap.objs.size) (.ref a) (.ref s.heap.objs.size)) _ _ _
 unfold Builtin.List.listExtendWith
 have T1:TSet prog w (s.heap.push { cls:=.type "list",data:=.seq ([]:List Value).toArray }) a es ep t:=T.keep fun o e=>Heap.get?_push_of_some _ e
 refine wpAny_bind (wpAny_typeOf (TSet.ty (s:={ s with heap:=s.heap.push { cls:=.type "list",data:=.seq ([]:List Value).toArray } }) T1) ?_)
 have h1:Builtin.List.listSameRef (.ref s.heap.objs.size) (.ref a)=false:=by simp[Builtin.List.listSameRef]; exact Nat.ne_of_gt ha
 have h2:(Value.type "set" == Value.type "list")=false:=by decide
 have h3:(Value.type "set" == Value.type "tuple")=false:=by decide
 simp only[h1,h2,h3,Bool.or_false,Bool.false_eq_true,if_false]
 refine wpAny_bind (iter_of_set T1 fun s2 I fp ord St x2 g2 o2 k2 hI hfp W st0 hp=>?_)
 have zs:(s.heap.push { cls:=.type "list",data:=.seq ([]:List Value).toArray }).objs.size=s.heap.objs.size+1:=Heap.size_push ..
 have T2:TSet prog w s2.heap a es ep t:=T1.keep fun o e=>x2 a o e
 refine wpAny_bind (wpAny_holding ?_)
 unfold Builtin.List.listLengthHint
 refine wpAny_bind (wpAny_specialOf T2.ty set_len ?_)
 wp_delta
 refine wpAny_bind (wpAny_isInstance T2.ty (b:=true) (by rw[isSubtype_type]; kernel_rfl) ?_)
 show wpAny _ A.in1 (typeOf (Value.ref a)>>=_) _ _ _
 refine wpAny_bind (wpAny_typeOf T2.ty ?_)
 refine wpAny_pure ?_
 rw[if_pos (by decide)]
 refine wpAny_bind (wpAny_rule ?_)
 have hS1:s2.heap.get? s.heap.objs.size=some { cls:=.type "list",data:=.seq ([]:List Value).toArray }:=x2 _ _ (Heap.get?_push_size _ rfl)
 refine wpAny_bind ?_
 show wpAny _ A.in1 (updateSeq s.heap.objs.size (·.push .none)>>=fun _=>updateSeq s.heap.objs.size (·.pop)) _ _ _
 refine wpAny_bind (wpAny_updateSeq hS1 rfl ?_)
 have hS2:=Heap.get?_update_self (Obj.mapSeq (·.push Value.none)) hS1 rfl
 refine wpAny_updateSeq hS2 rfl ?_
 have hS3:=Heap.get?_update_self (Obj.mapSeq (·.pop)) hS2 rfl
 have oth:∀ b o,b≠s.heap.objs.size→s2.heap.get? b=some o→((s2.heap.update s.heap.objs.size (Obj.mapSeq (·.push Value.none))).update s.heap.objs.size (Obj.mapSeq (·.pop))).get? b=some o :=
  fun b o hb e=>(Heap.get?_update_other _ _ (Ne.symm hb)).trans ((Heap.get?_update_other _ _ (Ne.symm hb)).trans e)
 have hSf:s.heap.objs.size∉fp:=fun m=>by
  rcases hfp _ m with z | z
  ·exact absurd ha (by rw[← z]; exact Nat.lt_irrefl _)
  ·rw[zs] at z; exact absurd z (Nat.not_le.mpr (Nat.lt_succ_self _))
 have W':=W A.in1 (by simpa using hh)
 have hord:ord.length=es.size:=by rw[hp.length_eq]; simp
 refine wpAny_pure ⟨plainId_quiet F.plain_extend_loop _,codeAny_extend_loopS W'.toS hn _ hSf _ es.size 0 _ _ _ rfl (Nat.zero_le _)
  (W'.frame 0 s2.heap _ st0 fun b hb o e=>oth b o (fun z=>hSf (z ▸ hb)) e) hS3 (ItemsOf.nil _) fun s' acc' c' hm hS' hacc=>?_⟩
 show wpAny _ A (load s.heap.objs.size>>=_) _ _ s'
 refine wpAny_bind (wpAny_load hS' ?_)
 rw[← hord] at hacc
 refine wpAny_pure ?_
 show Q acc'.toList s'
 rw[items_list (P:=fun _ _=>True) hacc]
 refine hQ s' ord (fun b o e=>?_) (hm.gens.trans g2) (hm.os.trans o2) hp
 have hb:b<s.heap.objs.size:=Heap.lt_size e
 refine hm.heap b o (fun z=>?_) (oth b o (Nat.ne_of_lt hb) (x2 b o (Heap.get?_push_of_some _ e)))
 rcases List.mem_cons.mp z with z | z
 ·exact absurd hb (z ▸ Nat.lt_irrefl _)
 ·rw[List.mem_singleton.mp z] at hb
  rw[zs] at hI
  exact absurd hb (Nat.not_lt.mpr (Nat.le_trans (Nat.le_succ _) hI))
end
end Sg
namespace L2
open PySem PySem.Spec PyProof.Rows
inductive leT:Th→Th→Prop where
 |s {a b:Str} (h:leS a b):leT (.str a) (.str b)
 |ii {a b c d:Int} (h:a<c∨(a=c∧b≤d)):leT (.tup [.int a,.int b]) (.tup [.int c,.int d])
 |ss {a b c d:Str} (h:(leS a c∧a≠c)∨(a=c∧leS b d)):leT (.tup [.str a,.str b]) (.tup [.str c,.str d])
theorem leT_anti {x y:Th}(h1:leT x y)(h2:leT y x):x=y:=by
 cases h1 with
 |s h=>cases h2 with | s h'=>rw[leS_anti h h']
 |@ii a b c d h=>cases h2 with
  |ii h' =>
   have e1:a=c:=by lia
   have e2:b=d:=by lia
   rw[e1,e2]
 |ss h=>cases h2 with
  |ss h' =>
   rcases h with ⟨q,n⟩ | ⟨e,q⟩
   ·rcases h' with ⟨q2,n2⟩ | ⟨e2,q2⟩
    ·exact absurd (leS_anti q q2) n
    ·exact absurd e2.symm n
   ·subst e
    rcases h' with ⟨q2,n2⟩ | ⟨e2,q2⟩
    ·exact absurd rfl n2
    ·rw[leS_anti q q2]
theorem sortedT_unique:∀ {a b:List Th},a.Perm b→a.Pairwise leT→b.Pairwise leT→a=b
 |[],b,p,_,_=>by rw[List.nil_perm.mp p]
 |x::a,[],p,_,_=>absurd p.length_eq (by simp)
 |x::a,y::b,p,ha,hb=>by
  have hxy:x=y:=by
   have h1:x∈y::b:=p.mem_iff.mp List.mem_cons_self
   have h2:y∈x::a:=p.mem_iff.mpr List.mem_cons_self
   rcases List.mem_cons.mp h1 with h1 | h1
   ·exact h1
   ·rcases List.mem_cons.mp h2 with h2 | h2
    ·exact h2.symm
    ·exact leT_anti ((List.pairwise_cons.mp ha).1 y h2) ((List.pairwise_cons.mp hb).1 x h1)
  subst hxy
  rw[sortedT_unique p.cons_inv (List.pairwise_cons.mp ha).2 (List.pairwise_cons.mp hb).2]
open Classical in
noncomputable def sortT (ts:List Th):List Th:=if h:∃ r:List Th,r.Perm ts∧r.Pairwise leT then h.choose else []
theorem sortT_of {ts r:List Th}(hp:r.Perm ts)(hs:r.Pairwise leT):sortT ts=r:=by
 have h:∃ r:List Th,r.Perm ts∧r.Pairwise leT:=⟨r,hp,hs⟩
 unfold sortT
 rw[dif_pos h]
 exact sortedT_unique (h.choose_spec.1.trans hp.symm) h.choose_spec.2 hs
inductive Sk where | s | ii | ss
def isIn:Th→Bool
 |.int _=>true
 |_=>false
def isSt:Th→Bool
 |.str _=>true
 |_=>false
def isTwo (f:Th→Bool):Th→Bool
 |.tup [a,b]=>f a&&f b
 |_=>false
def okK:Sk→Th→Bool
 |.s,t=>isSt t
 |.ii,t=>isTwo isIn t
 |.ss,t=>isTwo isSt t
theorem isIn_of {t:Th}(h:isIn t=true):∃ i,t=.int i:=by
 cases t <;> first | exact⟨_,rfl⟩ | cases h
theorem isSt_of {t:Th}(h:isSt t=true):∃ i,t=.str i:=by
 cases t <;> first | exact⟨_,rfl⟩ | cases h
theorem isTwo_of {f:Th→Bool}{t:Th}(h:isTwo f t=true):∃ a b,t=.tup [a,b]∧f a=true∧f b=true:=by
 cases t with
 |tup l =>
  cases l with
  |nil=>cases h
  |cons a l=>cases l with
   |nil=>cases h
   |cons b l=>cases l with
    |nil=>exact⟨a,b,rfl,(Bool.and_eq_true _ _ ▸ h:_∧_).1,(Bool.and_eq_true _ _ ▸ h:_∧_).2⟩
    |cons=>cases h
 |_=>cases h
def okT (ts:List Th):Bool:=ts.all (okK .s)||ts.all (okK .ii)||ts.all (okK .ss)
def nuV:Value→V
 |.none=>.non
 |.bool b=>.bl b
 |.int i _=>.int i
 |.str x _=>.str x
 |.bytes b _=>.byt b
 |.float b _=>.flt b
 |.ref a=>.ref a
 |.type n=>.ty n
 |_=>.non
theorem nuV_of {v:V}{u:Value}(r:RelV v u):nuV u=v:=by
 cases v <;> (first | (obtain⟨t,rfl⟩:=r; rfl) | (cases r; rfl))
theorem vals_nu:∀ {ys:List V} {us:List Value},Vals ys us→ys=us.map nuV
 |_,_,.nil=>rfl
 |_,_,.cons r t=>by rw[List.map_cons,nuV_of r,← vals_nu t]
theorem vals_rel:∀ {ys:List V} {us:List Value},Vals ys us→∀ u∈us,RelV (nuV u) u
 |_,_,.nil,u,h=>absurd h (by simp)
 |_,_,.cons r t,u,h=>by
  rcases List.mem_cons.mp h with rfl | h
  ·rw[nuV_of r]; exact r
  ·exact vals_rel t u h
theorem vals_of_rel:∀ {us:List Value},(∀ u∈us,RelV (nuV u) u)→Vals (us.map nuV) us
 |[],_=>.nil
 |u::us,h=>.cons (h u List.mem_cons_self) (vals_of_rel fun u m=>h u (List.mem_cons_of_mem _ m))
theorem sort_conv {us out:List Value}{ys:List V}{ts:List Th}(r:Vals ys us)(θ:Value→Th)(hθ:us.map θ=ts)(hp:out.Perm us)(hpw:out.Pairwise fun a b=>leT (θ a) (θ b)) :
  ∃ zs:List (V×Th),zs.Perm (ys.zip ts)∧Vals (zs.map (·.1)) out∧zs.map (·.2)=sortT ts:=by
 refine⟨out.map fun u=>(nuV u,θ u),?_,?_,?_⟩
 ·have e:ys.zip ts=us.map fun u=>(nuV u,θ u):=by
   rw[vals_nu r,← hθ,List.zip_map']
  rw[e]
  exact hp.map _
 ·rw[List.map_map]
  exact vals_of_rel fun u m=>vals_rel r u (hp.mem_iff.mp m)
 ·rw[List.map_map]
  refine (sortT_of ?_ (List.pairwise_map.mpr hpw)).symm
  rw[← hθ]
  exact hp.map _
theorem bears_zip {K:PySem.W.Frag}{H:Hp}:∀ {ys:List V} {ts:List Th},BearsL K H ys ts→∀ z∈ys.zip ts,Bears K H z.1 z.2
 |_,_,.nil,z,h=>absurd h (by simp)
 |_,_,.cons b r,z,h=>by
  rw[List.zip_cons_cons] at h
  rcases List.mem_cons.mp h with rfl | h
  ·exact b
  ·exact bears_zip r z h
theorem bears_of_all {K:PySem.W.Frag}{H:Hp}:∀ {zs:List (V×Th)},(∀ z∈zs,Bears K H z.1 z.2)→BearsL K H (zs.map (·.1)) (zs.map (·.2))
 |[],_=>.nil
 |z::zs,h=>.cons (h z List.mem_cons_self) (bears_of_all fun z m=>h z (List.mem_cons_of_mem _ m))
theorem lex_ii {x1 x2 y1 y2:Int}(h:(decide (y1<x1)||(!decide (x1<y1)&&decide (y2<x2)))=false):leT (.tup [.int x1,.int x2]) (.tup [.int y1,.int y2]):=by
 refine .ii ?_
 simp only[Bool.or_eq_false_iff,Bool.and_eq_false_iff,Bool.not_eq_false',decide_eq_false_iff_not,decide_eq_true_eq] at h
 lia
theorem lex_ss {x1 x2 y1 y2:List Nat}(h:(decide (y1<x1)||(!decide (x1<y1)&&decide (y2<x2)))=false):leT (.tup [.str ⟨x1.toArray⟩,.str ⟨x2.toArray⟩]) (.tup [.str ⟨y1.toArray⟩,.str ⟨y2.toArray⟩]):=by
 refine .ss ?_
 simp only[Bool.or_eq_false_iff,Bool.and_eq_false_iff,Bool.not_eq_false',decide_eq_false_iff_not,decide_eq_true_eq] at h
 obtain⟨a1,a2⟩:=h
 have le1:x1≤y1:=List.not_lt.mp a1
 by_cases q:x1<y1
 ·refine .inl ⟨le1,fun z=>?_⟩
  have z':x1=y1:=congrArg (fun s:Str=>s.cps.toList) z
  rw[z'] at q
  exact List.lt_irrefl _ q
 ·have e:x1=y1:=List.le_antisymm le1 (List.not_lt.mp q)
  rw[e]
  exact .inr ⟨rfl,a2.elim (fun z=>absurd z q) fun z=>List.not_lt.mp z⟩
theorem okK_ii {t:Th}(h:okK .ii t=true):∃ i j,t=.tup [.int i,.int j]:=by
 obtain⟨a,b,rfl,ha,hb⟩:=isTwo_of h
 obtain⟨i,rfl⟩:=isIn_of ha
 obtain⟨j,rfl⟩:=isIn_of hb
 exact⟨i,j,rfl⟩
theorem okK_ss {t:Th}(h:okK .ss t=true):∃ i j,t=.tup [.str i,.str j]:=by
 obtain⟨a,b,rfl,ha,hb⟩:=isTwo_of h
 obtain⟨i,rfl⟩:=isSt_of ha
 obtain⟨j,rfl⟩:=isSt_of hb
 exact⟨i,j,rfl⟩
noncomputable def thII (h:Heap)(u:Value):Th:=let k:=Sg.pairKey Sg.intAtom Sg.intAtom h u; .tup [.int (show Int from k.1),.int (show Int from k.2)]
noncomputable def thSS (h:Heap)(u:Value):Th:=let k:=Sg.pairKey Sg.strAtom Sg.strAtom h u; .tup [.str ⟨List.toArray (show List Nat from k.1)⟩,.str ⟨List.toArray (show List Nat from k.2)⟩]
section
variable {X:Cx}{K:PySem.W.Frag}{e:Expr}{es:List Expr}{fs:FL}{p pos:Pos}{pins:List (Addr×Obj)}{σ:St}{H:Hp}{s:Shared}
theorem pair_at (I:Inv X pins σ H s){Y Z:Sg.Atom}{v:V}{u:Value}{x y:Th}{k:Y.O.α}{l:Z.O.α}(b:Bears X.K H v (.tup [x,y]))(r:RelV v u)(hy:∀ v u,Bears X.K H v x→RelV v u→Y.keyOf u=some k)(hz:∀ v u,Bears X.K H v y→RelV v u→Z.keyOf u=some l){h:Heap}(hX:Sg.Ext s.heap h):Sg.IsPair Y Z h u (k,l):=by
 cases b with
 |tup e' b' =>
  obtain⟨v1,v2,rfl,w1,w2⟩:=b'.two
  cases r
  obtain⟨its,rv,⟨o,ho,hc,n,hd⟩,-⟩:=I.tuple e'
  cases rv with
  |cons q1 rv=>cases rv with
   |cons q2 rv =>
    cases rv
    exact⟨_,o,_,_,n,rfl,hX _ _ ho,hc,hd,hy _ _ w1 q1,hz _ _ w2 q2⟩
theorem key_i {v:V}{u:Value}{i:Int}(b:Bears K H v (.int i))(r:RelV v u):Sg.intAtom.keyOf u=some i:=by
 cases b
 obtain⟨t,rfl⟩:=r
 rfl
theorem key_s {v:V}{u:Value}{i:Str}(b:Bears K H v (.str i))(r:RelV v u):Sg.strAtom.keyOf u=some i.cps.toList:=by
 cases b
 obtain⟨t,rfl⟩:=r
 rfl
theorem pair_ii (I:Inv X pins σ H s){v:V}{u:Value}{i j:Int}(b:Bears X.K H v (.tup [.int i,.int j]))(r:RelV v u){h:Heap}(hX:Sg.Ext s.heap h):Sg.IsPair Sg.intAtom Sg.intAtom h u ((i:Int),(j:Int)):=pair_at I b r (fun _ _=>key_i) (fun _ _=>key_i) hX
theorem pair_ss (I:Inv X pins σ H s){v:V}{u:Value}{i j:Str}(b:Bears X.K H v (.tup [.str i,.str j]))(r:RelV v u){h:Heap}(hX:Sg.Ext s.heap h):Sg.IsPair Sg.strAtom Sg.strAtom h u (i.cps.toList,j.cps.toList):=pair_at I b r (fun _ _=>key_s) (fun _ _=>key_s) hX
theorem sorts_data (I:Inv X pins σ H s){ys:List V}{ts:List Th}{us:List Value}(b:BearsL X.K H ys ts)(r:Vals ys us)(hk:okT ts=true)(h:Heap)(hX:Sg.Ext s.heap h) :
  ∃ (O:KeyOrd) (key:Keyed→O.α) (G:Keyed→Prop) (kd:SortKind) (θ:Value→Th),Sg.Sorts X.prog X.w h us O key G kd∧us.map θ=ts ∧
   ∀ a∈us,∀ c∈us,O.kle (key (a,a)) (key (c,c))→leT (θ a) (θ c):=by
 unfold okT at hk
 rw[Bool.or_eq_true,Bool.or_eq_true] at hk
 rcases hk with (hk | hk) | hk
 ·obtain⟨ss,hs⟩:∃ ss,strsOf ts=some ss:=by
   clear b
   induction ts with
   |nil=>exact⟨[],rfl⟩
   |cons t ts ih =>
    rw[List.all_cons,Bool.and_eq_true] at hk
    obtain⟨ss,e⟩:=ih hk.2
    cases t with
    |str x=>exact⟨x::ss,by unfold strsOf; rw[e]; rfl⟩
    |_=>cases hk.1
  have hS:=strs_rel hs b r
  refine⟨_,_,_,_,fun u=>.str (strOf u),Sg.sorts_strs h hS,?_,fun a ha c hc hle=>?_⟩
  ·have e1:=hS.strs
   have e2:∀ {ts:List Th} {ss:List Str},strsOf ts=some ss→ts=ss.map Th.str:=by
    intro ts
    induction ts with
    |nil=>intro ss e; cases e; rfl
    |cons t ts ih =>
     intro ss e
     cases t with
     |str x =>
      unfold strsOf at e
      cases h2:strsOf ts with
      |none=>rw[h2] at e; cases e
      |some ss'=>rw[h2] at e; cases e; rw[List.map_cons,← ih h2]
     |_=>cases e
   rw[e2 hs,← e1,List.map_map]
   rfl
  ·obtain⟨x,t,rfl⟩:=hS.all a ha
   obtain⟨y,t',rfl⟩:=hS.all c hc
   exact .s (List.not_lt.mp (of_decide_eq_false hle))
 ·have pr:∀ (ys:List V) (ts:List Th) (us:List Value),BearsL X.K H ys ts→Vals ys us→ts.all (okK .ii)=true →
    (∀ u∈us,∃ k,Sg.IsPair Sg.intAtom Sg.intAtom h u k)∧us.map (thII h)=ts:=by
   intro ys ts us b r hk
   induction ts generalizing ys us with
   |nil=>cases b; cases r; exact⟨fun u m=>absurd m (by simp),rfl⟩
   |cons t ts ih =>
    cases b with
    |cons b1 b2=>cases r with
     |cons r1 r2 =>
      rw[List.all_cons,Bool.and_eq_true] at hk
      obtain⟨i1,i2⟩:=ih _ _ b2 r2 hk.2
      obtain⟨i,j,rfl⟩:=okK_ii hk.1
      have q:=pair_ii I b1 r1 hX
      refine⟨fun u m=>?_,?_⟩
      ·rcases List.mem_cons.mp m with rfl | m
       ·exact⟨_,q⟩
       ·exact i1 u m
      ·rw[List.map_cons,i2]
       unfold thII
       rw[Sg.pairKey_of q]
  obtain⟨h1,h2⟩:=pr _ _ _ b r hk
  refine⟨_,_,_,_,thII h,Sg.sorts_pairs Sg.intAtom Sg.intAtom h h1,h2,fun a ha c hc hle=>?_⟩
  have hle:(Sg.lexOrd Sg.intOrd Sg.intOrd).blt (Sg.pairKey Sg.intAtom Sg.intAtom h c) (Sg.pairKey Sg.intAtom Sg.intAtom h a)=false:=hle
  unfold thII
  generalize Sg.pairKey Sg.intAtom Sg.intAtom h a=x at hle
  generalize Sg.pairKey Sg.intAtom Sg.intAtom h c=y at hle
  obtain⟨x1,x2⟩:=x
  obtain⟨y1,y2⟩:=y
  exact @lex_ii x1 x2 y1 y2 hle
 ·have pr:∀ (ys:List V) (ts:List Th) (us:List Value),BearsL X.K H ys ts→Vals ys us→ts.all (okK .ss)=true →
    (∀ u∈us,∃ k,Sg.IsPair Sg.strAtom Sg.strAtom h u k)∧us.map (thSS h)=ts:=by
   intro ys ts us b r hk
   induction ts generalizing ys us with
   |nil=>cases b; cases r; exact⟨fun u m=>absurd m (by simp),rfl⟩
   |cons t ts ih =>
    cases b with
    |cons b1 b2=>cases r with
     |cons r1 r2 =>
      rw[List.all_cons,Bool.and_eq_true] at hk
      obtain⟨i1,i2⟩:=ih _ _ b2 r2 hk.2
      obtain⟨i,j,rfl⟩:=okK_ss hk.1
      have q:=pair_ss I b1 r1 hX
      refine⟨fun u m=>?_,?_⟩
      ·rcases List.mem_cons.mp m with rfl | m
       ·exact⟨_,q⟩
       ·exact i1 u m
      ·rw[List.map_cons,i2]
       unfold thSS
       rw[Sg.pairKey_of q]
  obtain⟨h1,h2⟩:=pr _ _ _ b r hk
  refine⟨_,_,_,_,thSS h,Sg.sorts_pairs Sg.strAtom Sg.strAtom h h1,h2,fun a ha c hc hle=>?_⟩
  have hle:(Sg.lexOrd strKind.toKeyOrd strKind.toKeyOrd).blt (Sg.pairKey Sg.strAtom Sg.strAtom h c) (Sg.pairKey Sg.strAtom Sg.strAtom h a)=false:=hle
  unfold thSS
  generalize Sg.pairKey Sg.strAtom Sg.strAtom h a=x at hle
  generalize Sg.pairKey Sg.strAtom Sg.strAtom h c=y at hle
  obtain⟨x1,x2⟩:=x
  obtain⟨y1,y2⟩:=y
  exact @lex_ss x1 x2 y1 y2 hle
theorem Inv.moved {s':Shared}(I:Inv X pins σ H s)(ho:s'.os=s.os)(hg:s'.gens=s.gens)(k:Sg.Ext s.heap s'.heap):Inv X pins σ H s':=by
 obtain⟨h',g',d',t',o'⟩:=s'
 cases hg
 cases ho
 have I':=I.kept (h':=h') (t':=t') k
 exact⟨I'.ok,I'.os,I'.bare,I'.base,I'.loc,I'.cell,I'.free,I'.freeC,I'.pin,I'.hok,I'.len⟩
def rSort2 (K:PySem.W.Frag):List V→Hp→VK→Prop:=fun xs H Q=>∃ p ys ts,xs=[.ref p]∧SqL K H p ys∧BearsL K H ys ts∧okT ts=true ∧
 ∀ q (zs:List (V×Th)),H q=none→zs.Perm (ys.zip ts)→zs.map (·.2)=sortT ts→Q (.ref q) (upd H q (.lst (zs.map (·.1))))
theorem call_sort2:CallR X (.builtin "sorted") (rSort2 X.K):=by
 intro pins s σ H xs us Q I r h
 obtain⟨p,ys,ts,rfl,hs,b,hk,q⟩:=h
 obtain⟨u,rfl,ru⟩:=vals1 r
 cases ru
 obtain⟨its,r',pl,hz⟩:=I.list hs
 have hi:=pl.isList
 have hlen:its.length≤sizeLine:=by rw[← r'.length]; exact hz
 refine Sg.sorted_any fun A' hA=>collect_list hi ?_ hlen
 refine⟨hlen,?_⟩
 have hX:Sg.Ext s.heap ((s.heap.push (seqObj "list" #[] 0)).update s.heap.objs.size (Obj.mapSeq (·++its.toArray))):=fun b o e=>by
  rw[Heap.get?_update_ne _ _ _ _ (Nat.ne_of_lt (Heap.lt_size e))]
  exact Heap.get?_push_of_some _ e
 obtain⟨O,key,G,kd,θ,S,hθ,hle⟩:=sorts_data I b r' hk _ hX
 refine⟨O,key,G,kd,S,fun out h' ep a1 a2 a3 a4=>?_⟩
 obtain⟨zs,z1,z2,z3⟩:=sort_conv r' θ hθ a1 (List.Pairwise.imp_of_mem (fun {a c} ha hc hac=>hle a (a1.mem_iff.mp ha) c (a1.mem_iff.mp hc) hac) a2)
 have hzs:((s.heap.push (seqObj "list" #[] 0)).update s.heap.objs.size (Obj.mapSeq (·++its.toArray))).objs.size=s.heap.objs.size+1:=by rw[Heap.size_update,size_push']
 dsimp only at a3 a4 ⊢
 rw[hzs] at a4 ⊢
 refine⟨.ref (s.heap.objs.size+1),upd H (s.heap.objs.size+1) (.lst (zs.map (·.1))),I.laid (t':=s.toks) (fun b u e=>a3 b u (hX b u e)) (Nat.le_succ _) ?_,rfl,q _ zs (I.hok.fresh (Nat.le_succ _)) z1 z3⟩
 refine⟨?_,out,ep,z2,a4⟩
 rw[z2.length,a1.length_eq]
 exact hlen
noncomputable def oSort2:List Th→Option (List Th)
 |[.lst ts]=>if okT ts=true then some (sortT ts) else none
 |_=>none
noncomputable def fSort2 (fs:FL):FL:=fun d=>(fs d).bind oSort2
theorem pf_sort2 (hg:Gl X "sorted") (hm:X.mg "sorted"=none) (ha:PBA X (e::es) fs)
  (he:starEach (e::es) X.env=(false,eval e X.env)::starEach es X.env:=by rfl) (hpl:(backTo pos (starEach es X.env)).any (·.1)=false:=by rfl):PF X (.Call (.Name "sorted" p) (e::es) [] pos) (fSort2 fs) :=
 PE.imp (pe_callB call_sort2 hg hm (by rfl) ha (by decide) (by decide) he hpl) fun σ H Q ⟨O,d,T,R,e,q⟩=>by
  unfold fSort2 at e
  cases hf:fs d with
  |none=>rw[hf] at e; cases e
  |some Ts =>
   rw[hf] at e
   change oSort2 Ts=_ at e
   unfold oSort2 at e
   split at e
   ·rename_i ts
    split at e
    ·rename_i hk
     cases e
     refine⟨O,d,_,R,hf,fun vs H1 s1 b1=>?_⟩
     obtain⟨u,rfl,bu⟩:=paired1 b1
     obtain⟨a,xs,rfl,h1,b2⟩:=bu.lst
     refine⟨a,xs,ts,rfl,h1,b2.mono (less_sub _ _),hk,fun q' zs hq z1 z2=>?_⟩
     refine q _ _ (s1.trans (Same.upd hq)) ⟨q',_,rfl,s1.free hq,upd_same,?_⟩
     rw[← z2]
     refine bears_of_all fun z m=>?_
     exact (bears_zip b2 z (z1.mem_iff.mp m)).mono (less_new (Same.upd hq) hq)
    ·cases e
   ·cases e
abbrev setTx (X:Cx)(a:Addr)(D:List Str):HO:=.ext fun h=>Sg.TSetD X.prog X.w h a D
def rSetT (X:Cx):List V→Hp→VK→Prop:=fun xs H Q=>∃ p ys ts ss,xs=[.ref p]∧SqL X.K H p ys∧BearsL X.K H ys ts∧strsOf ts=some ss∧ss.length<4000∧∀ q,H q=none→Q (.ref q) (upd H q (setTx X q (Sg.metS ss)))
theorem call_setL (hc:X.calm=true):CallR X (.type "set") (rSetT X):=by
 intro pins s σ H xs us Q I r h
 obtain⟨p,ys,ts,ss,rfl,hs,b,e,hl,q⟩:=h
 obtain⟨u,rfl,ru⟩:=vals1 r
 cases ru
 obtain⟨its,r',hi⟩:=lst_is I hs
 have hS:=strs_rel e b r'
 refine Sg.call_set_texts (I.ok.hd hc) hi hS (Nat.lt_of_lt_of_le (Nat.succ_lt_succ hl) (by decide)) fun h' tk T kp=>?_
 refine⟨.ref s.heap.objs.size,upd H s.heap.objs.size (setTx X s.heap.objs.size (Sg.metS ss)),I.laid (t':=tk) kp (Nat.le_refl _) ?_,rfl,q _ (I.hok.fresh (Nat.le_refl _))⟩
 refine⟨T,?_,fun h1 h2 z k=>z.keep k⟩
 obtain⟨es,ep,t,T',-⟩:=T
 obtain⟨o,ho,-⟩:=T'.obj
 exact⟨o,ho⟩
def rSortSet (X:Cx):List V→Hp→VK→Prop:=fun xs H Q=>∃ p D,xs=[.ref p]∧H p=some (setTx X p D)∧∀ q,H q=none→Q (.ref q) (upd H q (.lst ((sortS D).map V.str)))
theorem txts_strs {prog:Program}{w:World}{l:List (Int×Value)}(h:ElemsOf (PySem.strKind prog w) l):StrsAre (l.map (·.2)) (l.map fun e=>Sg.txtOf e.2):=by
 induction l with
 |nil=>exact .nil
 |cons e l ih =>
  obtain⟨u,eq⟩:=Sg.el_txt h e List.mem_cons_self
  rw[List.map_cons,List.map_cons]
  generalize hx:Sg.txtOf e.2=x at eq ⊢
  rw[eq]
  exact .cons x u (ih fun z m=>h z (List.mem_cons_of_mem _ m))
theorem strs_perm {vs us:List Value}{ss:List Str}(h:StrsAre us ss)(hp:vs.Perm us):StrsAre vs (vs.map strOf)∧(vs.map strOf).Perm ss:=by
 refine⟨strsAre_map vs fun v m=>h.all v (hp.mem_iff.mp m),?_⟩
 rw[← h.strs]
 exact hp.map _
theorem call_sortSet (hc:X.calm=true):CallR X (.builtin "sorted") (rSortSet X):=by
 intro pins s σ H xs us Q I r h
 obtain⟨p,D,rfl,hH,q⟩:=h
 obtain⟨u,rfl,ru⟩:=vals1 r
 cases ru
 obtain⟨⟨es,ep,t,T,hD⟩,-,-⟩:=I.hok p _ hH
 have hes:StrsAre (es.toList.map (·.2)) (Sg.txts es):=txts_strs T.el
 refine Sg.sorted_any fun A' hA=>Sg.collect_set (hA.trans (I.ok.hd hc)) T fun s1 vs x1 g1 o1 hp=>?_
 obtain⟨v1,v2⟩:=strs_perm hes hp
 have hlen:vs.length≤sizeLine:=by
  rw[hp.length_eq,List.length_map,Array.length_toList]
  exact fits_of_scanBound T.few
 refine⟨hlen,_,_,_,_,Sg.sorts_strs s1.heap v1,fun out h' e a1 a2 a3 a4=>?_⟩
 obtain⟨w1,w2⟩:=strs_perm v1 a1
 have hs:sortS D=out.map strOf:=by
  refine sortS_of ((w2.trans v2).trans hD) (List.pairwise_map.mpr (List.Pairwise.imp_of_mem (fun {a c} ha hc hac=>?_) a2))
  obtain⟨x,t,rfl⟩:=w1.all a ha
  obtain⟨y,t',rfl⟩:=w1.all c hc
  exact List.not_lt.mp (of_decide_eq_false hac)
 have I1:Inv X pins σ H s1:=I.moved o1 g1 x1
 refine⟨.ref s1.heap.objs.size,upd H s1.heap.objs.size (.lst ((sortS D).map V.str)),I1.laid (t':=s1.toks) a3 (Nat.le_refl _) ?_,rfl,q _ (I1.hok.fresh (Nat.le_refl _))⟩
 refine⟨?_,out,e,?_,a4⟩
 ·rw[List.length_map,hs,List.length_map,a1.length_eq]
  exact hlen
 ·rw[hs]
  exact strs_vals w1
noncomputable def oSortSet:List Th→Option (List Th)
 |[.lst ts]=>(strsOf ts).bind fun ss=>if ss.length<4000 then some ((sortS (Sg.metS ss)).map Th.str) else none
 |_=>none
noncomputable def fSortSet (fs:FL):FL:=fun d=>(fs d).bind oSortSet
theorem pf_sortSet {p2 pos2:Pos} (hc:X.calm=true) (hg:Gl X "sorted") (hm:X.mg "sorted"=none) (hg2:Gl X "set") (hm2:X.mg "set"=none) (ha:PBA X (e::es) fs)
  (he:starEach (e::es) X.env=(false,eval e X.env)::starEach es X.env:=by rfl) (hpl:(backTo pos2 (starEach es X.env)).any (·.1)=false:=by rfl)
  (he2:starEach [.Call (.Name "set" p2) (e::es) [] pos2] X.env=(false,eval (.Call (.Name "set" p2) (e::es) [] pos2) X.env)::starEach [] X.env:=by rfl) (hpl2:(backTo pos (starEach ([]:List Expr) X.env)).any (·.1)=false:=by rfl) :
  PF X (.Call (.Name "sorted" p) [.Call (.Name "set" p2) (e::es) [] pos2] [] pos) (fSortSet fs) :=
 PE.imp (pe_callB (call_sortSet hc) hg hm (by rfl) (pa_cons (pe_callTy (call_setL hc) hg2 hm2 (by rfl) ha (by decide) (by decide) he hpl) pa_nil he2) (by decide) (by decide) he2 hpl2) fun σ H Q ⟨O,d,T,R,e,q⟩=>by
  unfold fSortSet at e
  cases hf:fs d with
  |none=>rw[hf] at e; cases e
  |some Ts =>
   rw[hf] at e
   change oSortSet Ts=_ at e
   unfold oSortSet at e
   split at e
   ·rename_i ts
    cases hy:strsOf ts with
    |none=>rw[hy] at e; cases e
    |some ss =>
     rw[hy] at e
     change (if ss.length<4000 then _ else _)=_ at e
     split at e
     ·rename_i hl
      cases e
      refine⟨O,d,_,R,hf,fun vs H1 s1 b1=>?_⟩
      obtain⟨u,rfl,bu⟩:=paired1 b1
      obtain⟨a,xs,rfl,h1,b2⟩:=bu.lst
      refine⟨a,xs,ts,ss,rfl,h1,b2.mono (less_sub _ _),hy,hl,fun q1 hq1=>?_⟩
      refine⟨q1,Sg.metS ss,rfl,upd_same,fun q2 hq2=>?_⟩
      have n2:q2≠q1:=fun z=>by rw[z,upd_same] at hq2; cases hq2
      have hq2':H1 q2=none:=by rw[upd_ne n2] at hq2; exact hq2
      refine q _ _ ((s1.trans (Same.upd hq1)).trans (Same.upd hq2)) ⟨q2,_,rfl,s1.free hq2',upd_same,bears_strs _⟩
     ·cases e
   ·cases e
end
section
variable {X:Cx}{K:PySem.W.Frag}{o a b c e e2:Expr}{fo fa fb fc f:FD}{pos:Pos}{k:Nat}
def rM2 (g:Str→Str→Int→Option V):V→List V→Hp→VK→Prop:=fun x xs H Q=>∃ z y i r,x=.str z∧xs=[.str y,.int i]∧g z y i=some r∧Q r H
theorem vals2' {x y:V}{us:List Value}(r:Vals [x,y] us):∃ u w,us=[u,w]∧RelV x u∧RelV y w:=by
 cases r with
 |cons r1 r=>cases r with
  |cons r2 r=>cases r; exact⟨_,_,rfl,r1,r2⟩
theorem mt_find3:MtR X "str.find" (rM2 fun z y i=>some (.int (Txt.find3 z y i))):=by
 intro pins s σ H x xs v us Q I rx rs h
 obtain⟨z,y,i,r,rfl,rfl,e,q⟩:=h
 cases e
 obtain⟨t,rfl⟩:=rx
 obtain⟨u,w,rfl,ru,rw'⟩:=vals2' rs
 obtain⟨t2,rfl⟩:=ru
 obtain⟨t3,rfl⟩:=rw'
 exact SC.find3 ⟨.int _,H,I.tok _,⟨_,rfl⟩,q⟩
def fM2 (g:Str→Str→Int→Option Th)(fo fa fb:FD):FD:=fun d=>(fo d).bind fun x=>(fa d).bind fun y=>(fb d).bind fun i=>match x,y,i with | .str z,.str w,.int j=>g z w j | _,_,_=>none
theorem m2_lift {g:Str→Str→Int→Option Th}{g':Str→Str→Int→Option V}(hg:∀ z w i T,g z w i=some T→∃ v,g' z w i=some v∧∀ H,Bears K H v T) :
  ∀ σ H Q,liftD K (fM2 g fo fa fb) σ H Q→tBM K "str" (rM2 g') (liftB K fo) (liftAB K (fCons fa (fCons fb fNil))) σ H Q:=fun σ H Q ⟨O,d,T,R,e,q⟩=>by
 unfold fM2 at e
 cases h1:fo d with
 |none=>rw[h1] at e; cases e
 |some x =>
  rw[h1] at e
  cases h2:fa d with
  |none=>rw[h2] at e; cases e
  |some y =>
   rw[h2] at e
   cases h3:fb d with
   |none=>rw[h3] at e; cases e
   |some i =>
    rw[h3] at e
    simp only[Option.bind_some] at e
    split at e
    ·rename_i z w j
     obtain⟨v,hv,bv⟩:=hg z w j T e
     refine⟨O,d,_,R,h1,fun v1 H1 s1 b1=>?_⟩
     rw[b1.str]
     refine⟨rfl,O,d,[.str w,.int j],R.mono s1,by unfold fCons fNil; rw[h2,h3]; rfl,fun vs H2 s2 b2=>?_⟩
     obtain⟨u,u2,rfl,bu,bu2⟩:=paired2 b2
     rw[bu.str,bu2.int]
     exact⟨z,w,j,v,rfl,rfl,hv,q v H2 (s1.trans s2) (bv _)⟩
    ·cases e
theorem pd_find3 {apos cpos:Pos}(ho:PB X o fo)(ha:PB X e fa)(hb:PB X e2 fb)
  (hbase:attributeBase o "find" X.env (eval o X.env)=eval o X.env:=by rfl)
  (hfew:((backTo cpos (starEach [e,e2] X.env)).all (fun x=>!x.1)&&(backToKw cpos (keywordEach [] X.env)).all (fun x=>x.1.isSome)&&decide ([e,e2].length+([]:List Keyword).length+(if ([]:List Keyword).isEmpty then 0 else 1)<30))=true:=by rfl)
  (hline:(apos.endLine == cpos.line)=true:=by rfl) (hs:starEach [e,e2] X.env=(false,eval e X.env)::starEach [e2] X.env:=by rfl) (hs2:starEach [e2] X.env=(false,eval e2 X.env)::starEach [] X.env:=by rfl) (hplain:(backTo cpos (starEach [e2] X.env)).any (·.1)=false:=by rfl) :
  PD X (.Call (.Attribute o "find" apos) [e,e2] [] cpos) (fM2 (fun z y i=>some (.int (Txt.find3 z y i))) fo fa fb) :=
 PE.imp (pe_bm PySem.F.plainAttrs_str PySem.F.slot_str_find PySem.F.type_str_find mt_find3 ho (pba_cons ha (pba_cons hb pba_nil hs2) hs) hbase hfew hline hs hplain) (m2_lift fun z w i T e=>by cases e; exact⟨_,rfl,fun _=>.int _⟩)
def rExt2 (K:PySem.W.Frag):V→List V→Hp→VK→Prop:=fun x vs H Q=>∃ l b xs zs,x=.ref l∧vs=[.ref b]∧H l=some (.lst xs)∧(SqL K H b zs∨SqT K H b zs)∧xs.length+zs.length≤sizeLine∧Q .non (upd H l (.lst (xs++zs)))
theorem mt_ext2:MtM X "list.extend" (rExt2 X.K):=by
 intro pins s σ H x vs v us Q I rx rv h
 obtain⟨l,b,xs,zs,rfl,rfl,hH,hB,hz,q⟩:=h
 cases rx
 obtain⟨u,rfl,ru⟩:=rv.one
 cases ru
 obtain⟨z,its,n,r,hl,e⟩:=I.lstM hH
 have hB':∃ (T:String) (its2:List Value) (o:Obj) (n2:Nat),(T="list"∨T="tuple")∧Vals zs its2∧s.heap.get? b=some o∧o.cls=.type T∧o.data=.seq its2.toArray n2:=by
  rcases hB with hB | hB
  ·obtain⟨its2,r2,hi⟩:=lst_is I hB
   obtain⟨o,ho,hc,n2,hd⟩:=hi
   exact⟨"list",its2,o,n2,.inl rfl,r2,ho,hc,hd⟩
  ·obtain⟨its2,r2,⟨o,ho,hc,n2,hd⟩,-⟩:=I.tuple hB
   exact⟨"tuple",its2,o,n2,.inr rfl,r2,ho,hc,hd⟩
 obtain⟨T,its2,o2,n2,hT,r2,ho2,hc2,hd2⟩:=hB'
 have hsz:its.toArray.size+its2.toArray.size≤sizeLine:=by
  rw[List.size_toArray,List.size_toArray,← r.length,← r2.length]
  exact hz
 refine wpAny_call_entry F.slot_list_extend ⟨_,e,rfl⟩ F.entry_list_extend ?_ (F.args_list_extend_2 _ _)
 show wpAny _ _ (Builtin.List.listExtendWith (.ref l) (.ref b) .none) _ _ s
 unfold Builtin.List.listExtendWith
 refine wpAny_bind (wpAny_typeOf (T:=T) ⟨o2,ho2,hc2⟩ ?_)
 have hty:(Builtin.List.listSameRef (.ref l) (.ref b)||Value.type T == Value.type "list"||Value.type T == Value.type "tuple")=true:=by
  rcases hT with rfl | rfl
  ·have:(Value.type "list" == Value.type "list")=true:=by rfl
   rw[this]; simp
  ·have:(Value.type "tuple" == Value.type "tuple")=true:=by rfl
   rw[this]; simp
 rw[if_pos hty]
 refine wpAny_bind (listItems_at ho2 hd2 ?_)
 refine wpAny_bind (listItems_at e rfl ?_)
 rw[if_neg (by rw[notLongL hsz,Bool.and_false]; exact Bool.false_ne_true)]
 refine wpAny_bind (listUpdate_at e rfl ?_ (by lia) (by show (its.toArray++its2.toArray).size≤sizeLine+1; rw[Array.size_append]; lia))
 refine wpAny_pure ⟨_,rfl,?_⟩
 refine⟨.non,_,I.lset (its':=its++its2) hH e (by simp) (r.append r2) ?_,rfl,q⟩
 rw[List.length_append]
 exact hz
def seqOf:Th→Option (List Th)
 |.lst ts=>some ts
 |.tup ts=>some ts
 |_=>none
def fExtend (i:Nat)(f:FD):FS:=fun d=>match d[i]? with
 |some (some (.own ts))=>(f d).bind fun T=>(seqOf T).bind fun us=>if ts.length+us.length≤1000000 then some (.nx (d.set i (some (.own (ts++us))))) else none
 |_=>none
theorem Rep.putL {K:PySem.W.Frag}{H:Hp}{O:Hid}{σ:St}{d:Sd}(r:Rep K H O σ d){i:Nat}{ts:List Th}(hd:d[i]?=some (some (.own ts))){a:Addr}(ha:(i,a)∈O.own)(hs:σ[i]?=some (some (.ref a)))(hf:¬ O.far a)
  {vs:List V} {us:List Th} (b:BearsL K (less H O) vs us):Rep K (upd H a (.lst vs)) O σ (d.set i (some (.own us)))∧Same (low H O) (low (upd H a (.lst vs)) O):=by
 have hm:a∈O.own.map (·.2):=List.mem_map.mpr ⟨_,ha,rfl⟩
 have hi:i<d.length:=(List.getElem?_eq_some_iff.mp hd).1
 have sub:Same (less H O) (less (upd H a (.lst vs)) O):=fun p o e=>by
  obtain⟨h1,h2⟩:=of_less e
  have np:p≠a:=fun z=>h2 (.inl (by rw[z]; exact hm))
  exact less_of (by rw[upd_ne np]; exact h1) h2
 refine⟨{ len:=by rw[List.length_set]; exact r.len,th:=fun j U e=>?_,own:=fun j ws e=>?_,there:=fun p hp=>?_,inj:=r.inj,exc:=fun j c e=>?_,dct:=fun j fz kvs e=>?_ },fun p o e=>?_⟩
 ·by_cases hj:i=j
  ·subst hj
   rw[List.getElem?_set_self hi] at e
   cases e
  ·rw[List.getElem?_set_ne hj] at e
   obtain⟨w,h1,h2⟩:=r.th j U e
   exact⟨w,h1,h2.mono sub⟩
 ·by_cases hj:i=j
  ·subst hj
   rw[List.getElem?_set_self hi] at e
   cases e
   exact⟨a,_,ha,hs,upd_same,hf,b.mono sub⟩
  ·rw[List.getElem?_set_ne hj] at e
   obtain⟨a',xs',h1,h2,h3,h4,h5⟩:=r.own j ws e
   refine⟨a',xs',h1,h2,?_,h4,h5.mono sub⟩
   have np:a'≠a:=fun z=>hj (r.inj i j a ha (by rw[← z]; exact h1))
   rw[upd_ne np]; exact h3
 ·by_cases hp':p=a
  ·subst hp'; exact⟨_,upd_same⟩
  ·obtain⟨o,e⟩:=r.there p hp
   exact⟨o,by rw[upd_ne hp']; exact e⟩
 ·by_cases hj:i=j
  ·subst hj
   rw[List.getElem?_set_self hi] at e
   cases e
  ·rw[List.getElem?_set_ne hj] at e
   obtain⟨a',C,h1,h2,h3⟩:=r.exc j c e
   exact⟨a',C,h1,h2,sub _ _ h3⟩
 ·by_cases hj:i=j
  ·subst hj
   rw[List.getElem?_set_self hi] at e
   cases e
  ·rw[List.getElem?_set_ne hj] at e
   obtain⟨a',h1,h2,h3,h4⟩:=r.dct j fz kvs e
   have np:a'≠a:=fun z=>hj (r.inj i j a ha (by rw[← z]; exact h1))
   exact⟨a',h1,h2,h3.mono fun o q=>by rw[upd_ne np]; exact q,h4⟩
 ·obtain⟨h1,h2⟩:=of_low e
  have np:p≠a:=fun z=>h2 (by rw[z]; exact hm)
  exact low_of (by rw[upd_ne np]; exact h1) h2
theorem pds_extend {i:Nat} {apos cpos:Pos} (ho:PE X o (tVar i)) (he:PB X e f) (hbase:attributeBase o "extend" X.env (eval o X.env)=eval o X.env:=by rfl)
  (hfew:((backTo cpos (starEach [e] X.env)).all (fun x=>!x.1)&&(backToKw cpos (keywordEach [] X.env)).all (fun x=>x.1.isSome)
  &&decide (([e]:List Expr).length+([]:List Keyword).length+(if ([]:List Keyword).isEmpty then 0 else 1)<30))=true:=by rfl)
  (hline:(apos.endLine == cpos.line)=true:=by rfl) (hs:starEach [e] X.env=(false,eval e X.env)::starEach [] X.env:=by rfl) (hplain:(backTo cpos (starEach ([]:List Expr) X.env)).any (·.1)=false:=by rfl)
  (hsw:swapsWith (.Call (.Attribute o "extend" apos) [e] [] cpos) none pos.line X.env=pure false:=by rfl) :
  PDS X (.Expr (.Call (.Attribute o "extend" apos) [e] [] cpos) pos) (fExtend i f) :=
 PS.imp (ps_expr (pe_bm PySem.F.plainAttrs_list PySem.F.slot_list_extend PySem.F.type_list_extend mt_ext2 ho (pa_cons he pa_nil hs) hbase hfew hline hs hplain) hsw) fun D σ H ⟨O,d,o,R,e,q⟩=>by
  unfold fExtend at e
  split at e
  ·rename_i ts hd
   cases hf:f d with
   |none=>rw[hf] at e; cases e
   |some T =>
    rw[hf] at e
    cases hq:seqOf T with
    |none=>rw[show (some T).bind (fun T=>(seqOf T).bind _)=(seqOf T).bind _ from rfl,hq] at e; cases e
    |some us =>
     rw[show (some T).bind (fun T=>(seqOf T).bind _)=(seqOf T).bind _ from rfl,hq] at e
     obtain⟨a,xs,h1,h2,h3,h4,h5⟩:=R.own i ts hd
     change (if ts.length+us.length≤1000000 then _ else _)=_ at e
     split at e
     ·rename_i hz
      cases e
      refine⟨_,h2,.inl ⟨rfl,xs,SqL.of h3⟩,O,d,T,R,hf,fun v H' s b=>?_⟩
      have hb:∃ p zs,v=.ref p∧(SqL X.K H' p zs∨SqT X.K H' p zs)∧BearsL X.K (less H' O) zs us:=by
       cases T with
       |lst ws =>
        cases hq
        obtain⟨p,zs,e1,e2,e3⟩:=b.lst
        exact⟨p,zs,e1,.inl e2,e3⟩
       |tup ws =>
        cases hq
        obtain⟨p,zs,e1,e2,e3⟩:=b.tup
        exact⟨p,zs,e1,.inr ((less_sub _ _).seqT e2),e3⟩
       |_=>cases hq
      obtain⟨p,zs,rfl,hsq,hbz⟩:=hb
      refine⟨a,p,xs,zs,rfl,rfl,s _ _ h3,hsq,?_,?_⟩
      ·rw[h5.length,hbz.length]
       exact Nat.le_trans hz (by decide)
      ·obtain⟨R',s'⟩:=(R.mono s).putL hd h1 h2 h4 ((h5.mono (less_mono s)).append hbz)
       exact q σ _ O rfl ((low_mono s).trans s') R'
     ·cases e
  ·cases e
end
section
variable {κ:Type}[DecidableEq κ]
def valV (kvs:List (κ×V))(k:κ):Option V:=(kvs.find? fun kv=>decide (kv.1=k)).map (·.2)
def putK (kvs:List (κ×V))(k:κ)(v:V):List (κ×V) :=
 if (kvs.any fun kv=>decide (kv.1=k))=true then kvs.map (fun kv=>if kv.1=k then (kv.1,v) else kv) else kvs++[(k,v)]
theorem valV_pos {p:κ×V}{r:List (κ×V)}{k:κ}(e:p.1=k):valV (p::r) k=some p.2:=by simp[valV,List.find?_cons,e]
theorem valV_neg {p:κ×V}{r:List (κ×V)}{k:κ}(e:¬ p.1=k):valV (p::r) k=valV r k:=by simp[valV,List.find?_cons,e]
theorem valV_any (k:κ):∀ kvs:List (κ×V),(kvs.any fun kv=>decide (kv.1=k))=(valV kvs k).isSome
 |[]=>rfl
 |p::r=>by
  rw[List.any_cons]
  by_cases e:p.1=k
  ·simp only[valV_pos e,decide_eq_true e,Bool.true_or,Option.isSome_some]
  ·rw[valV_neg e,decide_eq_false e,Bool.false_or]; exact valV_any k r
theorem length_putK (kvs:List (κ×V))(k:κ)(v:V):(putK kvs k v).length≤kvs.length+1:=by
 unfold putK
 split
 ·rw[List.length_map]; lia
 ·rw[List.length_append,List.length_cons,List.length_nil]; lia
theorem RelO.isSome_eq {o:Option V}{u:Option Value}(r:RelO o u):o.isSome=u.isSome:=by
 cases o with
 |none=>cases u with
  |none=>rfl
  |some _=>exact (show False from r).elim
 |some _=>cases u with
  |none=>exact (show False from r).elim
  |some _=>rfl
theorem KV.any {kvs:List (κ×V)}{vs:List (κ×Value)}(r:KV kvs vs)(k:κ):(kvs.any fun kv=>decide (kv.1=k))=vs.any fun kv=>decide (kv.1=k):=by
 unfold KV at r
 induction r with
 |nil=>rfl
 |cons h t ih=>rw[List.any_cons,List.any_cons,ih,h.1]
theorem KV.repl {kvs:List (κ×V)}{vs:List (κ×Value)}(r:KV kvs vs)(k:κ){y:V}{u:Value}(ry:RelV y u) :
  KV (kvs.map fun kv=>if kv.1=k then (kv.1,y) else kv) (vs.map fun kv=>if kv.1=k then (kv.1,u) else kv):=by
 unfold KV at r ⊢
 induction r with
 |nil=>exact .nil
 |@cons p q ps qs h t ih =>
  rw[List.map_cons,List.map_cons]
  refine .cons ?_ ih
  obtain⟨h1,h2⟩:=h
  by_cases e:p.1=k
  ·rw[if_pos e,if_pos (h1.symm.trans e)]; exact⟨h1,ry⟩
  ·rw[if_neg e,if_neg (fun z=>e (h1.trans z))]; exact⟨h1,h2⟩
theorem KV.put {kvs:List (κ×V)}{vs:List (κ×Value)}(r:KV kvs vs)(k:κ){y:V}{u:Value}(ry:RelV y u):KV (putK kvs k y) (stored vs k u):=by
 unfold putK stored
 rw[r.any k]
 by_cases e:(vs.any fun kv=>decide (kv.1=k))=true
 ·rw[if_pos e,if_pos e]; exact r.repl k ry
 ·rw[if_neg e,if_neg e]; exact Paired.snoc r ⟨rfl,ry⟩
theorem KV.keys {kvs:List (κ×V)}{vs:List (κ×Value)}(r:KV kvs vs):kvs.map (·.1)=vs.map (·.1):=by
 unfold KV at r
 induction r with
 |nil=>rfl
 |cons h t ih=>rw[List.map_cons,List.map_cons,ih,h.1]
theorem KV.length {kvs:List (κ×V)}{vs:List (κ×Value)}(r:KV kvs vs):kvs.length=vs.length:=Paired.length r
end
theorem kV_is {P:Program}{w:World}{k:Key}{u:Value}(r:RelV (kV k) u):(mixKind P w).is k u=true:=by
 cases k with
 |inl i=>obtain⟨t,e⟩:=(show ∃ t,u=Value.int i t from r); subst e; exact mixKind_int P w i t
 |inr x=>obtain⟨t,e⟩:=(show ∃ t,u=Value.str x t from r); subst e; exact mixKind_str P w x t
theorem items_are {P:Program}{w:World}:∀ {ks:List Key} {us:List Value},Vals (ks.map kV) us→ItemsAre (mixKind P w) ks us
 |[],_,r=>by rw[List.map_nil] at r; cases r; exact .nil
 |k::ks,_,r=>by
  rw[List.map_cons] at r
  cases r with
  |cons h t=>exact .cons (kV_is h) (items_are t)
abbrev KT (H:Hp):List (List Key×V)→List (List Key×Addr×Value)→Prop:=Paired fun p q=>p.1=q.1∧H q.2.1=some (.tup (p.1.map kV))∧RelV p.2 q.2.2
theorem KT.val {H:Hp}{kvs:List (List Key×V)}{xs:List (List Key×Addr×Value)}(r:KT H kvs xs)(k:List Key):RelO (valV kvs k) ((atKey xs k).map (·.2)):=by
 induction r with
 |nil=>exact True.intro
 |@cons p q ps qs h t ih =>
  obtain⟨h1,_,h2⟩:=h
  by_cases e:p.1=k
  ·have e':q.1=k:=h1.symm.trans e
   have b:atKey (q::qs) k=some q.2:=by simp[atKey,List.find?_cons,e']
   rw[valV_pos e,b]; exact h2
  ·have e':¬ q.1=k:=fun z=>e (h1.trans z)
   have b:atKey (q::qs) k=atKey qs k:=by simp[atKey,List.find?_cons,e']
   rw[valV_neg e,b]; exact ih
theorem KT.repl {H:Hp}{kvs:List (List Key×V)}{xs:List (List Key×Addr×Value)}(r:KT H kvs xs)(k:List Key){y:V}{u:Value}(ry:RelV y u) :
  KT H (kvs.map fun kv=>if kv.1=k then (kv.1,y) else kv) (xs.map (putAt k u)):=by
 induction r with
 |nil=>exact .nil
 |@cons p q ps qs h t ih =>
  rw[List.map_cons,List.map_cons]
  refine .cons ?_ ih
  obtain⟨h1,h2,h3⟩:=h
  unfold putAt
  by_cases e:p.1=k
  ·rw[if_pos e,if_pos (h1.symm.trans e)]; exact⟨h1,h2,ry⟩
  ·rw[if_neg e,if_neg (fun z=>e (h1.trans z))]; exact⟨h1,h2,h3⟩
theorem KT.put {H:Hp}{kvs:List (List Key×V)}{xs:List (List Key×Addr×Value)}(r:KT H kvs xs)(k:List Key){b:Addr}{y:V}{u:Value}(hb:H b=some (.tup (k.map kV)))(ry:RelV y u) :
  KT H (putK kvs k y) (storedH xs k b u):=by
 have e:(kvs.any fun kv=>decide (kv.1=k))=(atKey xs k).isSome:=by
  rw[valV_any,(r.val k).isSome_eq,Option.isSome_map]
 unfold putK storedH
 rw[e]
 by_cases q:(atKey xs k).isSome=true
 ·rw[if_pos q,if_pos q]; exact r.repl k ry
 ·rw[if_neg q,if_neg q]; exact Paired.snoc r ⟨rfl,hb,ry⟩
theorem KT.keeps {H H':Hp}{kvs:List (List Key×V)}{xs:List (List Key×Addr×Value)}(r:KT H kvs xs)(ht:∀ b ys,H b=some (.tup ys)→H' b=some (.tup ys)):KT H' kvs xs :=
 Paired.mapP r fun _ _ z=>⟨z.1,ht _ _ z.2.1,z.2.2⟩
section
variable {P:Program}{w:World}{H:Hp}{h:Heap}{a:Addr}
theorem rd_of {u:HO}(ok:HOk P w H h)(e:Rd H a u):ObjOk P w H h a u:=e.ok ok
theorem dk_rd {kvs:List (Key×V)}(ok:HOk P w H h)(e:Rd H a (.dK kvs)):kvs.length≤sizeLine∧(a == sysModules)=false∧∃ vs,KV kvs vs∧h.DictOf (mixKind P w) a vs :=
 show ObjOk P w H h a (.dK kvs) from rd_of ok e
theorem dk_of {kvs:List (Key×V)}(ok:HOk P w H h)(e:H a=some (.dK kvs)):kvs.length≤sizeLine∧(a == sysModules)=false∧∃ vs,KV kvs vs∧h.DictOf (mixKind P w) a vs:=dk_rd ok (.inl e)
theorem key_of {ks:List Key}(ok:HOk P w H h)(e:H a=some (.tup (ks.map kV))):(tupleKind (mixKind P w)).is h ks a:=by
 obtain⟨_,its,r,o,h1,h2,n,h3⟩:=(show ObjOk P w H h a (.tup (ks.map kV)) from ok a _ e)
 exact⟨o,its.toArray,n,h1,h2,h3,by simpa using items_are r⟩
theorem dt_rd {kvs:List (List Key×V)}(ok:HOk P w H h)(e:Rd H a (.dT kvs)):kvs.length≤sizeLine∧(a == sysModules)=false ∧
  ∃ xs,KT H kvs xs∧h.DictOfH (tupleKind (mixKind P w)) a xs:=by
 obtain⟨z,y,xs,r,o,es,ep,h1,h2,h3,h4,h5⟩:=(show ObjOk P w H h a (.dT kvs) from rd_of ok e)
 refine⟨z,y,xs,r,o,es,ep,h1,h2,h3,h4,fun x hx=>?_,h5⟩
 have all:∀ {l:List (List Key×V)} {m:List (List Key×Addr×Value)},KT H l m→∀ x∈m,(tupleKind (mixKind P w)).is h x.1 x.2.1:=by
  intro l m q
  induction q with
  |nil=>intro x hx; exact nomatch hx
  |@cons p q ps qs hq t ih =>
   intro x hx
   rcases List.mem_cons.mp hx with e | hx
   ·subst e
    exact key_of ok (by rw[← hq.1]; exact hq.2.1)
   ·exact ih x hx
 exact all r x hx
theorem dt_of {kvs:List (List Key×V)}(ok:HOk P w H h)(e:H a=some (.dT kvs)):kvs.length≤sizeLine∧(a == sysModules)=false ∧
  ∃ xs,KT H kvs xs∧h.DictOfH (tupleKind (mixKind P w)) a xs:=dt_rd ok (.inl e)
end
def DGet (H:Hp)(a:Addr)(y:V)(r:Option V):Prop :=
 (∃ kvs k,Rd H a (.dK kvs)∧y=kV k∧r=valV kvs k)∨∃ kvs k b,Rd H a (.dT kvs)∧y=.ref b∧H b=some (.tup (k.map kV))∧r=valV kvs k
def DPut (H:Hp)(a:Addr)(y v:V)(H':Hp):Prop :=
 (∃ kvs k,H a=some (.dK kvs)∧y=kV k∧kvs.length<sizeLine∧H'=upd H a (.dK (putK kvs k v))) ∨
 ∃ kvs k b,H a=some (.dT kvs)∧y=.ref b∧H b=some (.tup (k.map kV))∧kvs.length<sizeLine∧H'=upd H a (.dT (putK kvs k v))
theorem DGet.k {H:Hp}{a:Addr}{kvs:List (Key×V)}{k:Key}(e:H a=some (.dK kvs)):DGet H a (kV k) (valV kvs k):=.inl ⟨kvs,k,.inl e,rfl,rfl⟩
theorem DGet.t {H:Hp}{a b:Addr}{kvs:List (List Key×V)}{k:List Key}(e:H a=some (.dT kvs))(eb:H b=some (.tup (k.map kV))):DGet H a (.ref b) (valV kvs k):=.inr ⟨kvs,k,b,.inl e,rfl,eb,rfl⟩
theorem DPut.k {H:Hp}{a:Addr}{kvs:List (Key×V)}{k:Key}{v:V}(e:H a=some (.dK kvs))(hl:kvs.length<sizeLine):DPut H a (kV k) v (upd H a (.dK (putK kvs k v))):=.inl ⟨kvs,k,e,rfl,hl,rfl⟩
theorem DPut.t {H:Hp}{a b:Addr}{kvs:List (List Key×V)}{k:List Key}{v:V}(e:H a=some (.dT kvs))(eb:H b=some (.tup (k.map kV)))(hl:kvs.length<sizeLine) :
  DPut H a (.ref b) v (upd H a (.dT (putK kvs k v))):=.inr ⟨kvs,k,b,e,rfl,eb,hl,rfl⟩
section
variable {X:Cx}{pins:List (Addr×Obj)}{σ:St}{H:Hp}{s:Shared}{a:Addr}{y v:V}{u r:Value}{o:Option V}{A:Around}{E:Value→Shared→Prop}
theorem Inv.big (I:Inv X pins σ H s):sysModules<s.heap.objs.size:=by
 have h:mainGlobals<s.heap.objs.size:=(I.mod.glob.keeps I.bk).lt
 exact Nat.lt_trans (by decide) h
theorem d_write {h':Heap}{t':Nat}{ob:HO}(I:Inv X pins σ H s)(mu:Mut (H a))(hs:Heap.SameBut a s.heap h')(he:∃ q,h'.get? a=some q)(new:ObjOk X.prog X.w (upd H a ob) h' a ob) :
  Inv X pins σ (upd H a ob) { s with heap:=h',toks:=t' } :=
 I.write (x:=a) (e:=a) mu (.inl rfl) (fun b q hb z=>(hs.2 b hb).trans z) he new
theorem dk_new {P:Program}{w:World}{H':Hp}{h':Heap}{kvs:List (Key×V)}{vs:List (Key×Value)}(z:kvs.length≤sizeLine)(hd:(a == sysModules)=false)(rel:KV kvs vs)(dd:h'.DictOf (mixKind P w) a vs) :
  ObjOk P w H' h' a (.dK kvs):=⟨z,hd,vs,rel,dd⟩
theorem d_setItem {H':Hp}{Q:Unit→Shared→Prop}(hu:A.units+1<cLine)(I:Inv X pins σ H s)(g:DPut H a y v H')(ry:RelV y u)(rv:RelV v r)(h:∀ s',Inv X pins σ H' s'→Q () s') :
  wpAny (model X.prog X.w) A (setItem (.ref a) u r) Q E s:=by
 rcases g with ⟨kvs,k,e,ey,l,eH⟩ | ⟨kvs,k,b,e,ey,eb,l,eH⟩
 ·subst ey eH
  obtain⟨z,hd,vs,rel,dd⟩:=dk_of I.hok e
  have hz:vs.length≤sizeLine:=by rw[← rel.length]; exact z
  have hl:(putK kvs k v).length≤sizeLine:=by have:=length_putK kvs k v; lia
  refine wpAny_setItem_pairs (hsz:=hz) (kV_is ry) dd fun h' dd' hs=>h _ ?_
  have he:∃ q,h'.get? a=some q:=let ⟨q,_,_,hq,_⟩:=dd'; ⟨q,hq⟩
  exact d_write I (by rw[e]; exact True.intro) hs he (dk_new hl hd (rel.put k rv) dd')
 ·subst ey eH
  cases (show u=Value.ref b from ry)
  obtain⟨z,hd,xs,rel,dd⟩:=dt_of I.hok e
  have hz:xs.length≤sizeLine:=by rw[← Paired.length rel]; exact z
  have hl:(putK kvs k v).length≤sizeLine:=by have:=length_putK kvs k v; lia
  refine wpAny_setItem_heap (hsz:=hz) (tupleKind_room_in1 hu) (key_of I.hok eb) dd fun h' dd' hs=>h _ ?_
  obtain⟨q,es,ep,hq,h2,h3,h4,_,h5⟩:=dd'
  refine d_write I (by rw[e]; exact True.intro) hs ⟨q,hq⟩ ⟨hl,hd,_,(rel.put k eb rv).keeps fun c ys ec=>?_,q,es,ep,hq,h2,h3,h4,h5⟩
  rw[upd_ne (ne_of ec e (fun z=>nomatch z))]
  exact ec
end
def sDPut (td ty tv:TE):TS:=fun D σ H=>tv σ H fun v H1=>td σ H1 fun x H2=>ty σ H2 fun y H3=>∃ a H4,x=.ref a∧DPut H3 a y v H4∧D.nx σ H4
section
variable {X:Cx}{o i e value:Expr}{pos pos' tpos:Pos}{td ty tv:TE}
theorem ps_dput (hu:X.A.units+1<cLine)(ho:PE X o td)(hi:PE X i ty)(hv:PE X value tv)(hs:swapsWith value (some (.Subscript o i pos')) pos.line X.env=pure false) :
  PS X (.Assign [.Subscript o i pos'] value pos) (sDPut td ty tv):=by
 intro pins s σ H D I h
 refine wpAny_Assign_Subscript (thn (hv pins s σ H _ I h) fun r s1 ⟨v,H1,I1,rv,q1⟩=>thn (ho pins s1 σ H1 _ I1 q1) fun u s2 ⟨x,H2,I2,rx,q2⟩=>thn (hi pins s2 σ H2 _ I2 q2) fun iv s3 ⟨y,H3,I3,ry,a,H4,ex,g,q3⟩=>?_) hs
 subst ex
 obtain rfl:u=Value.ref a:=rx
 exact d_setItem hu I3 g ry rv fun s4 I4=>⟨σ,H4,I4,q3⟩
end
theorem dk_empty {P:Program} {w:World} {H:Hp} (h:Heap) (hb:sysModules<h.objs.size):ObjOk P w H (h.push { cls:=.type "dict",data:=.dict #[] }) h.objs.size (.dK []) :=
 ⟨Nat.zero_le _,beq_eq_false_iff_ne.mpr (Ne.symm (Nat.ne_of_lt hb)),[],.nil,Heap.DictOf.new h⟩
def tDNewK:TE:=fun _ H Q=>∀ p,H p=none→Q (.ref p) (upd H p (.dK []))
section
variable {X:Cx}{pos:Pos}
theorem pe_dnewK:PE X (.Dict [] [] pos) tDNewK:=fun pins s σ H Q I h =>
 wpAny_Dict_empty ⟨.ref s.heap.objs.size,_,I.laid (a:=s.heap.objs.size) (o:=.dK []) (t':=s.toks) (fun _ _ q=>Heap.get?_push_of_some _ q) (Nat.le_refl _) (dk_empty s.heap I.big),rfl,h _ (I.hok.fresh (Nat.le_refl _))⟩
end
def flatD:Th→Bool
 |.bl _=>true
 |.int _=>true
 |.str _=>true
 |.non=>true
 |_=>false
theorem fv_of {K:PySem.W.Frag}{H:Hp}{v:V}{T:Th}(b:Bears K H v T)(h:flatD T=true):v=fv T:=by
 cases b <;> first | rfl | cases h
def putS (kvs:List (Str×Th))(x:Str)(T:Th):List (Str×Th):=if (kvs.any fun p=>decide (p.1=x))=true then kvs.map (fun p=>if p.1=x then (p.1,T) else p) else kvs++[(x,T)]
theorem any_dkv (x:Str):∀ kvs:List (Str×Th),((dkv kvs).any fun kv=>decide (kv.1=(Sum.inr x:Key)))=kvs.any fun p=>decide (p.1=x)
 |[]=>rfl
 |p::r=>by
  have ih:=any_dkv x r
  unfold dkv at *
  rw[List.map_cons,List.any_cons,List.any_cons,ih,key_rr]
theorem put_dkv (kvs:List (Str×Th))(x:Str)(T:Th):putK (dkv kvs) (Sum.inr x:Key) (fv T)=dkv (putS kvs x T):=by
 unfold putK putS
 rw[any_dkv]
 split
 ·unfold dkv
  rw[List.map_map,List.map_map]
  refine List.map_congr_left fun p _=>?_
  simp only[Function.comp]
  by_cases e:p.1=x
  ·subst e
   simp
  ·have e1:¬ (Sum.inr p.1:Key)=Sum.inr x:=fun z=>e (Sum.inr.inj z)
   rw[if_neg e1,if_neg e]
 ·unfold dkv
  rw[List.map_append]
  rfl
theorem dkv_len (kvs:List (Str×Th)):(dkv kvs).length=kvs.length:=by unfold dkv; rw[List.length_map]
theorem DctAt.rd {H:Hp}{a:Addr}{kvs:List (Str×Th)}:∀ {fz:Bool},DctAt H a fz kvs→Rd H a (.dK (dkv kvs))
 |false,h=>.inl h
 |true,⟨o,h⟩=>.inr ⟨o,h⟩
section
variable {X:Cx}{K:PySem.W.Frag}{o a b c e value:Expr}{f fk fw:FD}{pos pos':Pos}{k i:Nat}{x:Str}
theorem Rep.setDct {H:Hp}{O:Hid}{σ:St}{d:Sd}(r:Rep K H O σ d){p:Addr}(hp:H p=none)(i:Nat):Rep K (upd H p (.dK [])) (O.cons i p) (σ.set i (some (.ref p))) (d.set i (some (.dct false []))):=by
 have nf:¬ O.has p:=r.notOwn hp
 have s:Same H (upd H p (.dK [])):=Same.upd hp
 have sub:Same (less H O) (less (upd H p (.dK [])) (O.cons i p)):=less_new s hp
 have ne:∀ {j:Nat} {D:Dv},(d.set i (some (Dv.dct false [])))[j]?=some (some D)→(i=j∧D=.dct false []∧i<d.length)∨(i≠j∧d[j]?=some (some D)):=by
  intro j D e
  by_cases hj:i=j
  ·subst hj
   have hi:i<d.length:=by simpa using (List.getElem?_eq_some_iff.mp e).1
   rw[List.getElem?_set_self hi] at e
   cases e
   exact .inl ⟨rfl,rfl,hi⟩
  ·rw[List.getElem?_set_ne hj] at e
   exact .inr ⟨hj,e⟩
 exact {
  len:=by rw[List.length_set,List.length_set]; exact r.len
  th:=fun j U e=>by
   rcases ne e with ⟨-,z,-⟩ | ⟨hj,e⟩
   ·cases z
   ·obtain⟨w,h1,h2⟩:=r.th j U e
    exact⟨w,by rw[List.getElem?_set_ne hj]; exact h1,h2.mono sub⟩
  own:=fun j us e=>by
   rcases ne e with ⟨-,z,-⟩ | ⟨hj,e⟩
   ·cases z
   ·obtain⟨a',xs',h1,h2,h3,h4,h5⟩:=r.own j us e
    exact⟨a',xs',List.mem_cons_of_mem _ h1,by rw[List.getElem?_set_ne hj]; exact h2,s _ _ h3,h4,h5.mono sub⟩
  there:=fun q hq=>by
   rcases has_cons hq with rfl | hq
   ·exact⟨_,upd_same⟩
   ·obtain⟨o,e⟩:=r.there q hq
    exact⟨o,s _ _ e⟩
  exc:=fun j c e=>by
   rcases ne e with ⟨-,z,-⟩ | ⟨hj,e⟩
   ·cases z
   ·obtain⟨a',C,h1,h2,h3⟩:=r.exc j c e
    exact⟨a',C,by rw[List.getElem?_set_ne hj]; exact h1,h2,sub _ _ h3⟩
  dct:=fun j fz kvs e=>by
   rcases ne e with ⟨rfl,z,hi⟩ | ⟨hj,e⟩
   ·cases z
    exact⟨p,List.mem_cons_self,List.getElem?_set_self (by rw[← r.len]; exact hi),upd_same,fun z=>nf (.inr z)⟩
   ·obtain⟨a',h1,h2,h3,h4⟩:=r.dct j fz kvs e
    exact⟨a',List.mem_cons_of_mem _ h1,by rw[List.getElem?_set_ne hj]; exact h2,h3.mono (s a'),h4⟩
  inj:=fun j l q h1 h2=>by
   have h1:(j,q)∈(i,p)::O.own:=h1
   have h2:(l,q)∈(i,p)::O.own:=h2
   have no:∀ m,(m,p)∉O.own:=fun m z=>nf (.inl (List.mem_map.mpr ⟨_,z,rfl⟩))
   rcases List.mem_cons.mp h1 with q1 | q1
   ·rcases List.mem_cons.mp h2 with q2 | q2
    ·cases q1; cases q2; rfl
    ·cases q1; exact absurd q2 (no _)
   ·rcases List.mem_cons.mp h2 with q2 | q2
    ·cases q2; exact absurd q1 (no _)
    ·exact r.inj j l q q1 q2 }
def fDNew (i:Nat):FS:=fun d=>some (.nx (d.set i (some (.dct false []))))
theorem pds_dnew (hN:X.N.Nodup)(hi:X.N[i]?=some x)(hx:Loc X.env.scope x)
  (hf:X.fn x=true∨X.env.scope.names.lookup x=some .local:=by first | exact .inl rfl | exact .inr rfl | assumption) {px:Pos} (hs:swapsWith (.Dict [] [] pos') (some (.Name x px)) pos.line X.env=pure false:=by rfl):PDS X (.Assign [.Name x px] (.Dict [] [] pos') pos) (fDNew i) :=
 PS.imp (ps_set hN hi hx pe_dnewK hs hf) fun D σ H ⟨O,d,o,R,e,q⟩=>by
  cases e
  exact fun p hp=>q _ _ (O.cons i p) rfl (low_new (Same.upd hp) hp) (R.setDct hp i)
def fDPut (i:Nat)(fk fw:FD):FS:=fun d=>match d[i]? with
 |some (some (.dct false kvs))=>(fw d).bind fun U=>(fk d).bind fun T=>match T with | .str x=>if flatD U=true∧kvs.length<1000000 then some (.nx (d.set i (some (.dct false (putS kvs x U))))) else none | _=>none
 |_=>none
theorem Rep.putD {H:Hp}{O:Hid}{σ:St}{d:Sd}{fz fz':Bool}{u:HO}(r:Rep K H O σ d){kvs kvs':List (Str×Th)}(hd:d[i]?=some (some (.dct fz kvs))){p:Addr}(hp:(i,p)∈O.own)(hs:σ[i]?=some (some (.ref p)))(hf:¬ O.far p)(hu:DctAt (upd H p u) p fz' kvs') :
  Rep K (upd H p u) O σ (d.set i (some (.dct fz' kvs')))∧Same (low H O) (low (upd H p u) O):=by
 have hm:p∈O.own.map (·.2):=List.mem_map.mpr ⟨_,hp,rfl⟩
 have hi:i<d.length:=(List.getElem?_eq_some_iff.mp hd).1
 have sub:Same (less H O) (less (upd H p u) O):=fun q o e=>by
  obtain⟨h1,h2⟩:=of_less e
  have np:q≠p:=fun z=>h2 (.inl (by rw[z]; exact hm))
  exact less_of (by rw[upd_ne np]; exact h1) h2
 have ne:∀ {j:Nat} {D:Dv},(d.set i (some (Dv.dct fz' kvs')))[j]?=some (some D)→(i=j∧D=.dct fz' kvs')∨(i≠j∧d[j]?=some (some D)):=by
  intro j D e
  by_cases hj:i=j
  ·subst hj
   rw[List.getElem?_set_self hi] at e
   cases e
   exact .inl ⟨rfl,rfl⟩
  ·rw[List.getElem?_set_ne hj] at e
   exact .inr ⟨hj,e⟩
 refine⟨{ len:=by rw[List.length_set]; exact r.len,th:=fun j U e=>?_,own:=fun j ws e=>?_,there:=fun q hq=>?_,inj:=r.inj,exc:=fun j c e=>?_,dct:=fun j fy ws e=>?_ },fun q o e=>?_⟩
 ·rcases ne e with ⟨-,z⟩ | ⟨hj,e⟩
  ·cases z
  ·obtain⟨w,h1,h2⟩:=r.th j U e
   exact⟨w,h1,h2.mono sub⟩
 ·rcases ne e with ⟨-,z⟩ | ⟨hj,e⟩
  ·cases z
  ·obtain⟨a',xs',h1,h2,h3,h4,h5⟩:=r.own j ws e
   have np:a'≠p:=fun z=>hj (r.inj i j p hp (by rw[← z]; exact h1))
   exact⟨a',xs',h1,h2,by rw[upd_ne np]; exact h3,h4,h5.mono sub⟩
 ·by_cases hq':q=p
  ·subst hq'; exact⟨_,upd_same⟩
  ·obtain⟨o,e⟩:=r.there q hq
   exact⟨o,by rw[upd_ne hq']; exact e⟩
 ·rcases ne e with ⟨-,z⟩ | ⟨hj,e⟩
  ·cases z
  ·obtain⟨a',C,h1,h2,h3⟩:=r.exc j c e
   exact⟨a',C,h1,h2,sub _ _ h3⟩
 ·rcases ne e with ⟨rfl,z⟩ | ⟨hj,e⟩
  ·cases z
   exact⟨p,hp,hs,hu,hf⟩
  ·obtain⟨a',h1,h2,h3,h4⟩:=r.dct j fy ws e
   have np:a'≠p:=fun z=>hj (r.inj i j p hp (by rw[← z]; exact h1))
   exact⟨a',h1,h2,h3.mono fun o q=>by rw[upd_ne np]; exact q,h4⟩
 ·obtain⟨h1,h2⟩:=of_low e
  have np:q≠p:=fun z=>h2 (by rw[z]; exact hm)
  exact low_of (by rw[upd_ne np]; exact h1) h2
theorem pds_dput (hr:Room k X.A)(ho:PE X o (tVar i))(hi:PB X e fk)(hv:PD X value fw)(hs:swapsWith value (some (.Subscript o e pos')) pos.line X.env=pure false:=by rfl) :
  PDS X (.Assign [.Subscript o e pos'] value pos) (fDPut i fk fw):=PS.imp (ps_dput (hu_of hr) ho hi hv hs) fun D σ H ⟨O,d,o,R,e,q⟩=>by
 unfold fDPut at e
 split at e
 ·rename_i kvs hd
  cases hw:fw d with
  |none=>rw[hw] at e; cases e
  |some U =>
   rw[hw] at e
   cases hk:fk d with
   |none=>rw[hk] at e; cases e
   |some T =>
    rw[hk] at e
    cases T with
    |str x =>
     change (if flatD U=true∧kvs.length<1000000 then some (Out.nx (d.set i (some (.dct false (putS kvs x U))))) else none)=some o at e
     split at e
     ·rename_i hc
      cases e
      refine⟨O,d,U,R,hw,fun v H1 s1 b1=>?_⟩
      have R1:=R.mono s1
      obtain⟨a,h1,h2,h3,h4⟩:=R1.dct i false kvs hd
      refine⟨_,h2,O,d,_,R1,hk,fun w H2 s2 b2=>?_⟩
      rw[b2.str]
      have R2:=R1.mono s2
      have h3':H2 a=some (.dK (dkv kvs)):=s2 _ _ h3
      refine⟨a,upd H2 a (.dK (dkv (putS kvs x U))),rfl,.inl ⟨_,Sum.inr x,h3',rfl,by rw[dkv_len]; exact Nat.lt_of_lt_of_le hc.2 (by decide),?_⟩,?_⟩
      ·rw[fv_of b1 hc.1,put_dkv]
      ·obtain⟨R3,s3⟩:=R2.putD (fz':=false) (u:=.dK (dkv (putS kvs x U))) (kvs':=putS kvs x U) hd h1 h2 h4 upd_same
       exact q σ _ O rfl (((low_mono s1).trans (low_mono s2)).trans s3) R3
     ·cases e
    |_=>cases e
 ·cases e
end
theorem kV_of {P:Program}{w:World}{k:Key}{v:Value}(h:(mixKind P w).is k v=true):RelV (kV k) v:=by
 rcases keyIs_shape (show keyIs k v=true from h) with ⟨i,t,rfl,rfl⟩ | ⟨x,t,rfl,rfl⟩
 ·exact⟨t,rfl⟩
 ·exact⟨t,rfl⟩
def minD (b:Th):List Th→Option Th
 |[]=>some b
 |t::r=>match oLt t b with
  |some (.bl true)=>minD t r
  |some (.bl false)=>minD b r
  |_=>none
section
variable {prog:Program}{w:World}{A:Around}{G:Value→Th→Prop}{h0:Heap}{l I S:Addr}{vs:List Value}{ts:List Th}{kw:List (Str×Value)}{R:Result→Shared→Prop}
def Lts (prog:Program)(w:World)(A:Around)(G:Value→Th→Prop)(h0:Heap):Prop:=∀ (u v:Value) (t b:Th) (c:Bool) (s:Shared) (Q:Value→Shared→Prop) (E:Value→Shared→Prop),Sg.Ext h0 s.heap→G u t→G v b→oLt t b=some (.bl c)→Q (.bool c) s→wpAny (model prog w) A (richCompare .Lt u v) Q E s
theorem mn_name:(toString "min"++toString ".loop":String)="min.loop":=by decide
theorem paired_at {α β:Type}{F:α→β→Prop}:∀ {xs:List α} {ys:List β} {i:Nat} {y:β},Paired F xs ys→ys[i]?=some y→∃ x,xs[i]?=some x∧F x y
 |_,_,0,_,.cons r _,e=>by cases e; exact⟨_,rfl,r⟩
 |_,_,i+1,_,.cons _ t,e=>by
  obtain⟨x,h1,h2⟩:=paired_at (i:=i) t e
  exact⟨x,h1,h2⟩
 |_,_,i,_,.nil,e=>by simp at e
theorem mn_step (hh:A.in1.handled=none)(C:Lts prog w A.in1 G h0)(hl:h0.IsList l vs.toArray)(nI:h0.get? I=none)(nS:h0.get? S=none)(ne:S≠I)(P:Paired G vs ts) :
  ∀ (r:List Th) (j:Nat) (s:Shared) (vb:Value) (tb tm:Th) (c:Nat),ts.drop j=r→j≤ts.length→G vb tb→minD tb r=some tm→Sg.Ext h0 s.heap→s.heap.IsListIter I l j →
  s.heap.get? S=some { cls:=.type "list",dict:=none,data:=.seq #[vb,vb] c,slots:=#[] } →
  (∀ v h' tk,G v tm→Sg.Ext h0 h'→R (.ok (.ret v)) { s with heap:=h',toks:=tk }) →
  codeAny (model prog w) A (.builtin "min.loop" ⟨[.ref I,.none,.ref S],kw⟩) R s:=by
 have hne:l≠I:=fun z=>by
  obtain⟨o,ho,-⟩:=hl
  rw[z,nI] at ho
  cases ho
 have hlS:l≠S:=fun z=>by
  obtain⟨o,ho,-⟩:=hl
  rw[z,nS] at ho
  cases ho
 have hlen:vs.length=ts.length:=P.length
 have W:=Walks.list (prog:=prog) (w:=w) hh I l hne vs.toArray
 have up:∀ {h h':Heap},Sg.Ext h0 h→(∀ b o,b∉[I]→h.get? b=some o→h'.get? b=some o)→Sg.Ext h0 h':=fun e k b o q=>k b o (fun z=>by
  rw[List.mem_singleton] at z
  rw[z,nI] at q
  cases q) (e b o q)
 have upS:∀ {h:Heap} (f:Obj→Obj),Sg.Ext h0 h→Sg.Ext h0 (h.update S f):=fun f e b o q=>by
  refine (Heap.get?_update_other _ _ (fun z=>?_)).trans (e b o q)
  rw[← z,nS] at q
  cases q
 have atL:∀ {h:Heap},Sg.Ext h0 h→h.IsList l vs.toArray:=fun e=>hl.at fun o q=>e _ _ q
 intro r
 induction r with
 |nil =>
  intro j s vb tb tm c hr hj gb em eh hi hS hR
  have ej:vs.toArray.size=j:=by
   have:=List.drop_eq_nil_iff.mp hr
   simp
   lia
  cases em
  refine codeAny_builtin F.entry_min_loop ?_
  rw[Around.under_plainId F.plain_min_loop _]
  show wpAny _ A.in1 (seqItems? _>>=_) _ _ s
  refine wpAny_bind (wpAny_seqItems hS rfl ?_)
  show wpAny _ A.in1 (tryCatch (pyNext _) _>>=_) _ _ s
  refine wpAny_bind (wpAny_tryCatch (W.done s _ _ ⟨by rw[ej]; exact hi,atL eh⟩ fun h1 tk k1=>?_))
  have hS1:=k1 S _ (by simpa using ne) hS
  show wpAny _ A.in1 (updateSeq S _>>=_) _ _ _
  refine wpAny_bind ?_
  refine wpAny_updateSeq hS1 rfl (wpAny_bind (wpAny_letGo (wpAny_pure ?_)))
  exact hR vb _ tk gb (upS _ (up eh k1))
 |cons t r ih =>
  intro j s vb tb tm c hr hj gb em eh hi hS hR
  have hjl:j<ts.length:=by
   rcases Nat.lt_or_ge j ts.length with z | z
   ·exact z
   ·rw[List.drop_eq_nil_iff.mpr z] at hr; cases hr
  rw[List.drop_eq_getElem_cons hjl] at hr
  injection hr with ht hr'
  obtain⟨v0,hv0,gv0⟩:=paired_at P (List.getElem?_eq_getElem hjl)
  rw[ht] at gv0
  refine codeAny_builtin F.entry_min_loop ?_
  rw[Around.under_plainId F.plain_min_loop _]
  show wpAny _ A.in1 (seqItems? _>>=_) _ _ s
  refine wpAny_bind (wpAny_seqItems hS rfl ?_)
  show wpAny _ A.in1 (tryCatch (pyNext _) _>>=_) _ _ s
  refine wpAny_bind (wpAny_tryCatch (W.item j s _ _ (by simp; lia) ⟨hi,atL eh⟩ fun v h1 tk hv st1 k1=>?_))
  have ev:v=v0:=by
   have hv':vs[j]?=some v:=by simpa using hv
   rw[hv0] at hv'
   cases hv'
   rfl
  subst ev
  have e1:=up eh k1
  have hS1:=k1 S _ (by simpa using ne) hS
  unfold minD at em
  have hb:∃ b,oLt t tb=some (.bl b):=by
   revert em
   split
   ·intro; exact⟨_,by assumption⟩
   ·intro; exact⟨_,by assumption⟩
   ·intro z; cases z
  obtain⟨b,hb⟩:=hb
  rw[hb] at em
  show wpAny _ A.in1 (tryCatch (holding [v,v] (richCompare .Lt v vb>>=_)) _>>=_) _ _ _
  refine wpAny_bind (wpAny_tryCatch (wpAny_holding (wpAny_bind (C v vb t tb b _ _ _ e1 gv0 gb hb ?_))))
  refine wpAny_bind (wpAny_holding (wpAny_truthy_bool ?_))
  refine wpAny_bind (wpAny_letGo (wpAny_pure ?_))
  cases b with
  |true =>
   simp only[if_true]
   refine wpAny_bind ?_
   refine wpAny_updateSeq hS1 rfl (wpAny_bind (wpAny_letGo ?_))
   rw[mn_name]
   refine wpAny_pure ⟨plainId_quiet F.plain_min_loop _,ih (j+1) _ v t tm _ hr' hjl gv0 em (upS _ e1) ?_ (Heap.get?_update_self _ hS1 rfl) fun v' h2 tk2 g2 e2=>hR v' h2 tk2 g2 e2⟩
   exact st1.1.at fun o q=>(Heap.get?_update_other _ _ ne).trans q
  |false =>
   simp only[Bool.false_eq_true,if_false]
   refine wpAny_bind (wpAny_letGo ?_)
   rw[mn_name]
   exact wpAny_pure ⟨plainId_quiet F.plain_min_loop _,ih (j+1) _ vb tb tm c hr' hjl gb em e1 st1.1 hS1 fun v' h2 tk2 g2 e2=>hR v' h2 tk2 g2 e2⟩
def minDef (df:Th):List Th→Option Th
 |[]=>some df
 |t::r=>minD t r
theorem mn_first (hh:A.in1.handled=none)(C:Lts prog w A.in1 G h0)(hl:h0.IsList l vs.toArray)(nI:h0.get? I=none)(nS:h0.get? S=none)(ne:S≠I)(P:Paired G vs ts){s:Shared}{dv:Value}{k:Str}{df tm:Th}{c:Nat}(gd:G dv df)
  (em:minDef df ts=some tm) (eh:Sg.Ext h0 s.heap) (hi:s.heap.IsListIter I l 0) (hS:s.heap.get? S=some { cls:=.type "list",dict:=none,data:=.seq #[] c,slots:=#[] })
  (hR:∀ v h' tk,G v tm→Sg.Ext h0 h'→R (.ok (.ret v)) { s with heap:=h',toks:=tk }):codeAny (model prog w) A (.builtin "min.loop" ⟨[.ref I,.none,.ref S],[(k,dv)]⟩) R s:=by
 have hne:l≠I:=fun z=>by
  obtain⟨o,ho,-⟩:=hl
  rw[z,nI] at ho
  cases ho
 have W:=Walks.list (prog:=prog) (w:=w) hh I l hne vs.toArray
 have up:∀ {h h':Heap},Sg.Ext h0 h→(∀ b o,b∉[I]→h.get? b=some o→h'.get? b=some o)→Sg.Ext h0 h':=fun e k b o q=>k b o (fun z=>by
  rw[List.mem_singleton] at z
  rw[z,nI] at q
  cases q) (e b o q)
 refine codeAny_builtin F.entry_min_loop ?_
 rw[Around.under_plainId F.plain_min_loop _]
 show wpAny _ A.in1 (seqItems? _>>=_) _ _ s
 refine wpAny_bind (wpAny_seqItems hS rfl ?_)
 show wpAny _ A.in1 (tryCatch (pyNext _) _>>=_) _ _ s
 cases P with
 |nil =>
  cases em
  refine wpAny_bind (wpAny_tryCatch (W.done s _ _ ⟨hi,hl.at fun o q=>eh _ _ q⟩ fun h1 tk k1=>?_))
  show wpAny _ A.in1 (rule _>>=_) _ _ _
  refine wpAny_bind (wpAny_rule (wpAny_pure ?_))
  exact hR dv _ tk gd (up eh k1)
 |@cons u t us ts gu P' =>
  refine wpAny_bind (wpAny_tryCatch (W.item 0 s _ _ (by simp) ⟨hi,hl.at fun o q=>eh _ _ q⟩ fun v h1 tk hv st1 k1=>?_))
  have ev:v=u:=by
   have hv':(u::us)[0]?=some v:=by simpa using hv
   cases hv'
   rfl
  subst ev
  have e1:=up eh k1
  have hS1:=k1 S _ (by simpa using ne) hS
  show wpAny _ A.in1 (updateSeq S _>>=_) _ _ _
  refine wpAny_bind ?_
  refine wpAny_updateSeq hS1 rfl ?_
  rw[mn_name]
  refine wpAny_pure ⟨plainId_quiet F.plain_min_loop _,mn_step (ts:=t::ts) hh C hl nI nS ne (.cons gu P') ts 1 _ v t tm _ rfl (by simp) gu em (fun b o q=>?_) (st1.1.at fun o q=>(Heap.get?_update_other _ _ ne).trans q) (Heap.get?_update_self _ hS1 rfl) fun v' h2 tk2 g2 e2=>hR v' h2 tk2 g2 e2⟩
  refine (Heap.get?_update_other _ _ (fun z=>?_)).trans (e1 b o q)
  rw[← z,nS] at q
  cases q
theorem args_minD (a d:Value):argsOk "min" ⟨[a],[(Str.ofString "default",d)]⟩:=by unfold argsOk; kernel_rfl
theorem call_minD {E:Value→Shared→Prop}{s:Shared}{dv:Value}{df tm:Th}{Q:Value→Shared→Prop}(hh:A.in1.handled=none)(C:Lts prog w A.in1 G s.heap)(hl:s.heap.IsList l vs.toArray)(P:Paired G vs ts)(gd:G dv df)
  (em:minDef df ts=some tm) (hQ:∀ v h' tk,G v tm→Sg.Ext s.heap h'→Q v { s with heap:=h',toks:=tk }):wpAny (model prog w) A (call (.builtin "min") [.ref l] [(Str.ofString "default",dv)]) Q E s:=by
 refine wpAny_call (codeAny_call_builtin F.plain_min F.entry_min ?_)
 have main:wpAny (model prog w) A.in1 (Builtin.«min» ⟨[.ref l],[(Str.ofString "default",dv)]⟩) (fun fin s'=>match fin with
   |.done f=>(match (Except.ok f:Result) with | .ok (.ret v)=>Q v s' | .ok _=>False | .error e=>E e s')
   |.again c'=>c'.quiet=true∧codeAny (model prog w) A c' (fun r s'=>match r with | .ok (.ret v)=>Q v s' | .ok _=>False | .error e=>E e s') s') E s:=by
  show wpAny _ A.in1 (Builtin.Builtins.bindParams "min" ["key","default"] 0 ⟨[],[(Str.ofString "default",dv)]⟩>>=_) _ _ s
  refine wpAny_bind (wpAny_of_eq (show Builtin.Builtins.bindParams "min" ["key","default"] 0 ⟨[],[(Str.ofString "default",dv)]⟩=pure [none,some dv] from rfl) ?_)
  refine wpAny_bind (wpAny_pure ?_)
  refine wpAny_bind (wpAny_pyIter_list hl ?_)
  refine wpAny_bind (wpAny_newObj_type ?_)
  rw[mn_name]
  refine wpAny_pure ⟨plainId_quiet F.plain_min_loop _,mn_first hh C hl (Heap.get?_none_of_le (Nat.le_refl _)) (Heap.get?_none_of_le ?_) ?_ P gd em (fun b o e=>Heap.get?_push_of_some _ (Heap.get?_push_of_some _ e)) ?_ (Heap.get?_push_size _ rfl) fun v h' tk g e=>hQ v h' tk g e⟩
  ·rw[size_push']; exact Nat.le_succ _
  ·rw[size_push']; exact Nat.succ_ne_self _
  ·exact⟨_,Heap.get?_push_of_some _ (Heap.get?_push_size _ rfl),rfl,rfl⟩
 simp only[checkBuiltinCall,F.kind_min]
 cases hsig:Manifest.signature? "min" with
 |none=>exact wpAny_pure main
 |some sig =>
  have ha:=args_minD (.ref l) dv
  simp only[argsOk,hsig] at ha
  have h2:Bind.checkArgs "min" sig ⟨[.ref l],[(Str.ofString "default",dv)]⟩=pure ():=ha
  simp only[h2]
  exact wpAny_pure main
end
section
variable {X:Cx}{K:PySem.W.Frag}{e value:Expr}{fs:FL}{fd:FD}{p pos kp:Pos}{k:Nat}
theorem isTup_at {h h':Heap}{a:Addr}{its:Array Value}(x:IsTup h a its)(e:Sg.Ext h h'):IsTup h' a its:=let ⟨o,ho,r⟩:=x; ⟨o,e _ _ ho,r⟩
theorem lts_data {pins:List (Addr×Obj)}{σ:St}{H:Hp}{s:Shared}(I:Inv X pins σ H s){A:Around}(hu:A.units<cLine):Lts X.prog X.w A (fun u t=>∃ x,RelV x u∧Bears X.K H x t) s.heap:=by
 rintro u v t b c s1 Q E hE ⟨x,rx,bx⟩ ⟨y,ry,by'⟩ hlt hQ
 unfold oLt at hlt
 split at hlt
 ·cases hlt
  cases bx
  cases by'
  obtain⟨t1,rfl⟩:=rx
  obtain⟨t2,rfl⟩:=ry
  exact (lt_int hQ:wpAny (model X.prog X.w) A (compareOp .Lt _ _) Q E s1)
 ·cases hlt
  cases bx
  cases by'
  obtain⟨t1,rfl⟩:=rx
  obtain⟨t2,rfl⟩:=ry
  exact HT.rcLt_str _ _ _ _ _ _ _ _ _ _ hQ
 ·rename_i ts us
  cases h1:keysOf ts with
  |none=>rw[h1] at hlt; cases hlt
  |some ns =>
   rw[h1] at hlt
   change ((keysOf us).bind fun ms=>(HT.lexK ns ms).map Th.bl)=_ at hlt
   cases h2:keysOf us with
   |none=>rw[h2] at hlt; cases hlt
   |some ms =>
    rw[h2] at hlt
    change ((HT.lexK ns ms).map Th.bl)=_ at hlt
    cases h3:HT.lexK ns ms with
    |none=>rw[h3] at hlt; cases hlt
    |some z =>
     rw[h3] at hlt
     cases hlt
     cases bx with
     |tup g1 b1=>cases by' with
      |tup g2 b2 =>
       cases rx
       cases ry
       obtain⟨its,r1,p1,_⟩:=I.tuple g1
       obtain⟨its2,r2,p2,_⟩:=I.tuple g2
       exact (HT.lt_tupKeys (isTup_at p1 hE) (isTup_at p2 hE) (by simpa using keys_rel h1 b1 r1) (by simpa using keys_rel h2 b2 r2) h3 hu hQ:wpAny (model X.prog X.w) A (compareOp .Lt _ _) Q E s1)
 ·cases hlt
theorem pair_vals {H:Hp}:∀ {xs:List V} {us:List Value} {ts:List Th},Vals xs us→BearsL K H xs ts→Paired (fun u t=>∃ x,RelV x u∧Bears K H x t) us ts
 |_,_,_,.nil,.nil=>.nil
 |_,_,_,.cons r rs,.cons b bs=>.cons ⟨_,r,b⟩ (pair_vals rs bs)
def fMinD (fs:FL)(fd:FD):FD:=fun d=>(fs d).bind fun Ts=>(fd d).bind fun df=>match Ts with | [.lst ts]=>minDef df ts | _=>none
theorem pd_minD (hr:Room k X.A) (hc:X.calm=true) (hg:Gl X "min") (hm:X.mg "min"=none) (ha:PBA X [e] fs) (hv:PD X value fd)
  (he:backTo pos (starEach [e] X.env)=(false,eval e X.env)::backTo pos (starEach [] X.env):=by rfl) (hplain:(backTo pos (starEach [e] X.env)).any (·.1)=false:=by rfl)
  (hall:(backToKw pos (keywordEach [⟨some (Str.ofString "default"),value,kp⟩] X.env)).all (·.1.isSome)=true:=by rfl) (hkw:(backToKw pos (keywordEach [⟨some (Str.ofString "default"),value,kp⟩] X.env)).any (·.1.isNone)=false:=by rfl)
  (hz:∀ v:Value,((backToKw pos (keywordEach [⟨some (Str.ofString "default"),value,kp⟩] X.env)).filterMap (·.1)).zip [v]=[(Str.ofString "default",v)]:=by intro _; rfl) :
  PD X (.Call (.Name "min" p) [e] [⟨some (Str.ofString "default"),value,kp⟩] pos) (fMinD fs fd):=by
 intro pins s σ H Q I ⟨O,d,T,R,ef,q⟩
 unfold fMinD at ef
 cases hf:fs d with
 |none=>rw[hf] at ef; cases ef
 |some Ts =>
  rw[hf] at ef
  change ((fd d).bind _)=_ at ef
  cases hfd:fd d with
  |none=>rw[hfd] at ef; cases ef
  |some df =>
   rw[hfd] at ef
   match Ts,hf,ef with
   |[.lst ts],hf,ef =>
    change minDef df ts=some T at ef
    refine wpAny_Call_Name_kw (ld_blt I hg hm (by rfl) ?_ (by decide) (by decide))
    refine callWith_kw ?_ he hplain hall hkw
    refine thn (ha pos pins s σ H _ I ⟨O,d,_,R,hf,fun vs H1 s1 b1=>(⟨s1,b1⟩:Same H H1∧Paired (Lent X.K H1 O) vs [.lst ts])⟩) fun us s1 ⟨vs,H1,I1,r1,sm,b1⟩=>?_
    obtain⟨v1,rfl,b3⟩:=paired1 b1
    obtain⟨u1,rfl,ru⟩:=vals1 r1
    obtain⟨a,xs,rfl,hq,bx⟩:=b3.lst
    cases ru
    refine kws_cons (thn (hv pins s1 σ H1 _ I1 ⟨O,d,df,R.mono sm,hfd,fun v H2 s2 b2=>(⟨s2,b2⟩:Same H1 H2∧Bears X.K (less H2 O) v df)⟩) fun dv s2 ⟨v2,H2,I2,r2,sm2,b2⟩=>kws_nil ?_)
    rw[hz]
    obtain⟨its,rv,pl,hz'⟩:=I2.list (sm2.seq hq)
    refine call_minD (A:=X.A) (G:=fun u t=>∃ x,RelV x u∧Bears X.K (less H2 O) x t) (I2.ok.hd hc) ?_ pl.isList (pair_vals rv (bx.mono (less_mono sm2))) ⟨v2,r2,b2⟩ ef fun v h' tk ⟨x,rx,bxx⟩ hE=>?_
    ·intro u v t b c s3 Q E hE ⟨x,rx,bx⟩ ⟨y,ry,by'⟩
     exact lts_data I2 (A:=X.A.in1) (by have:=hr.un; show X.A.units+1<cLine; lia) u v t b c s3 Q E hE ⟨x,rx,bx.mono (less_sub _ _)⟩ ⟨y,ry,by'.mono (less_sub _ _)⟩
    ·exact⟨x,H2,I2.kept (t':=tk) hE,rx,q x H2 (sm.trans sm2) bxx⟩
end
section
variable {X:Cx}{tg a b:Expr}{fa fb:FD}{K:PySem.W.Frag}{p pos:Pos}
def upFrom (lo:Int)(n:Nat):List Th:=(List.range n).map fun (k:Nat)=>Th.int (lo+(k:Int))
theorem itok_range2 {H:Hp}{O:Hid}(lo:Int)(n:Nat):ItOk K (Itr lo n) (low H O) O.far (upFrom lo n) where
 go:=fun i H' s hi=>by
  show i<n
  simpa [upFrom] using hi
 stop:=fun H' s=>by
  show n≤(upFrom lo n).length
  simp[upFrom]
 yld:=fun i H' O' v H'' hi hf s _ y=>by
  obtain⟨e,e2⟩:=y
  subst e e2
  refine⟨Same.refl _,.int (lo+i),?_,.int _⟩
  have hi':i<n:=by simpa [upFrom] using hi
  simp[upFrom,hi']
def fRange2 (fa fb:FD):FL:=fun d=>(fa d).bind fun A=>(fb d).bind fun B=>match A,B with
 |.int i,.int j=>if -1000000≤i∧i≤1000000∧-1000000≤j∧j≤1000000 then some (upFrom i (j-i).toNat) else none
 |_,_=>none
theorem pdi_range2 (hg:Gl X "range") (hm:X.mg "range"=none) (ha:PD X a fa) (hb:PD X b fb) (hs:starEach [a,b] X.env=[(false,eval a X.env),(false,eval b X.env)]:=by rfl) (hs2:starEach [b] X.env=[(false,eval b X.env)]:=by rfl)
  (hs1:starEach [a,b] X.env=(false,eval a X.env)::starEach [b] X.env:=by rfl) (hs3:starEach [b] X.env=(false,eval b X.env)::starEach [] X.env:=by rfl):PDI X tg (.Call (.Name "range" p) [a,b] [] pos) (fRange2 fa fb) :=
 PI.imp (pi_range2 hg hm (pa_cons ha (pa_cons hb pa_nil hs3) hs1) hs hs2) fun σ H R ⟨O,d,ts,r,e,q⟩=>by
  unfold fRange2 at e
  cases h1:fa d with
  |none=>rw[h1] at e; cases e
  |some A =>
   rw[h1] at e
   cases h2:fb d with
   |none=>rw[h2] at e; cases e
   |some B =>
    rw[h2] at e
    cases A with
    |int i=>cases B with
     |int j =>
      change (if -1000000≤i∧i≤1000000∧-1000000≤j∧j≤1000000 then some (upFrom i (j-i).toNat) else none)=some ts at e
      split at e
      ·rename_i hj
       cases e
       refine⟨O,d,.int i,r,h1,fun v H1 s1 b1=>?_⟩
       cases b1
       refine⟨O,d,.int j,r.mono s1,h2,fun v H2 s2 b2=>?_⟩
       cases b2
       exact⟨i,j,rfl,⟨by lia,by lia,by lia,by lia⟩,q _ H2 (s1.trans s2) (itok_range2 _ _)⟩
      ·cases e
     |_=>cases e
    |_=>cases e
end
theorem collect_dict {prog:Program}{w:World}{A:Around}{E:Value→Shared→Prop}{s:Shared}{a:Addr}{vs:List (Key×Value)}{ep:Nat}{Q:List Value→Shared→Prop}(hh:A.handled=none)(hd:(a == sysModules)=false)(m:s.heap.DictAt (mixKind prog w) a vs ep)(hn:vs.length≤sizeLine)
  (hQ:∀ h' tk (acc:Array Value),Sg.Ext s.heap h'→ItemsOf (fun i v=>∃ k x,vs[i]?=some (k,x)∧(mixKind prog w).is k v=true) acc vs.length→Q acc.toList { s with heap:=h',toks:=tk }):wpAny (model prog w) A (collect (.ref a)) Q E s:=by
 have ha:a<s.heap.objs.size:=m.lt_size
 unfold collect
 refine wpAny_bind (wpAny_runValue (codeAny_builtin F.entry_proto_collect ?_))
 rw[Around.under_plainId F.plain_proto_collect _]
 show wpAny _ A.in1 (newList []>>=fun l=>again (.builtin "list.__iadd__" ⟨[l,.ref a],[]⟩)) _ _ s
 refine wpAny_bind (wpAny_newObj_type ?_)
 refine wpAny_pure ⟨plainId_quiet F.plain_list_iadd _,codeAny_builtin F.entry_list_iadd ?_⟩
 rw[Around.under_plainId F.plain_list_iadd _]
 show wpAny _ A.in1 (Builtin.List.listExtendWith (.ref s.heap.objs.size) (.ref a) (.ref s.heap.objs.size)) _ _ _
 refine PySem.W.kdl_extend (R:=fun r s'=>match r with
   |.ok (.ret v)=>wpAny (model prog w) A (match v with
    |Value.ref a=>(do let o ← load a; match o.data with | .seq xs _=>pure xs.toList | _=>unsupported "internal:collect")
    |_=>unsupported "internal:collect") Q E s'
   |.ok _=>False
   |.error e=>E e s') (s:={ s with heap:=s.heap.push { cls:=.type "list",data:=.seq ([]:List Value).toArray } }) (PySem.W.kdl_dict (knd:=mixKind prog w) (kvs:=vs) (ep:=ep) hd) hh (m.push _) s.heap.objs.size (Nat.ne_of_gt ha) (Nat.ne_of_gt ha) _ 0 (Heap.get?_push_size _ rfl) (fun h' tk acc c kp hS it=>?_) hn
 show wpAny _ A (load s.heap.objs.size>>=_) _ _ _
 refine wpAny_bind (wpAny_load hS ?_)
 exact wpAny_pure (hQ h' tk acc (fun b o e=>kp b o (Nat.ne_of_lt (Heap.lt_size e)) (Heap.get?_push_of_some _ e)) it)
theorem strs_at:∀ {l:List Value} {ss:List Str},l.length=ss.length→(∀ (j:Nat) (v:Value),l[j]?=some v→∃ x t,ss[j]?=some x∧v=.str x t)→StrsAre l ss
 |[],[],_,_=>.nil
 |[],_::_,h,_=>nomatch h
 |_::_,[],h,_=>nomatch h
 |v::l,x::ss,h,f=>by
  obtain⟨y,t,h1,rfl⟩:=f 0 v rfl
  cases h1
  exact .cons x t (strs_at (by simpa using h) fun j u hj=>f (j+1) u hj)
def rSortD:List V→Hp→VK→Prop:=fun xs H Q=>∃ p kvs,xs=[.ref p]∧Rd H p (.dK (dkv kvs))∧∀ q,H q=none→Q (.ref q) (upd H q (.lst ((sortS (kvs.map (·.1))).map V.str)))
theorem call_sortD {X:Cx} (hc:X.calm=true):CallR X (.builtin "sorted") rSortD:=by
 intro pins s σ H xs us Q I r h
 obtain⟨p,kvs,rfl,hH,q⟩:=h
 obtain⟨u,rfl,ru⟩:=vals1 r
 cases ru
 obtain⟨z,hd,vs,rel,dd⟩:=dk_rd I.hok hH
 obtain⟨ep,da⟩:=dd.dictAt
 have hlen:vs.length=kvs.length:=by rw[← rel.length,dkv_len]
 refine Sg.sorted_any fun A' hA=>collect_dict (hA.trans (I.ok.hd hc)) hd da (by rw[← rel.length]; exact z) fun h1 tk acc x1 it=>?_
 have v1:StrsAre acc.toList (kvs.map (·.1)):=by
  refine strs_at (by rw[Array.length_toList,it.1,List.length_map,hlen]) fun j v hv=>?_
  obtain⟨k,x,hk,hi⟩:=it.2 j v (by rw[← Array.getElem?_toList]; exact hv)
  have h2:=congrArg (fun l=>l[j]?) rel.keys
  simp only[List.getElem?_map,hk,Option.map_some] at h2
  unfold dkv at h2
  rw[List.getElem?_map] at h2
  cases hq:kvs[j]? with
  |none=>rw[hq] at h2; cases h2
  |some p' =>
   rw[hq] at h2
   have h3:(Sum.inr p'.1:Key)=k:=Option.some.inj h2
   rw[← h3] at hi
   have rv:RelV (kV (Sum.inr p'.1)) v:=kV_of hi
   obtain⟨t,e⟩:=(show ∃ t,v=Value.str p'.1 t from rv)
   exact⟨p'.1,t,by rw[List.getElem?_map,hq]; rfl,e⟩
 refine⟨by rw[Array.length_toList,it.1,← rel.length]; exact z,_,_,_,_,Sg.sorts_strs h1 v1,fun out h' e a1 a2 a3 a4=>?_⟩
 obtain⟨w1,w2⟩:=strs_perm v1 a1
 have hs:sortS (kvs.map (·.1))=out.map strOf:=by
  refine sortS_of w2 (List.pairwise_map.mpr (List.Pairwise.imp_of_mem (fun {a c} ha hc hac=>?_) a2))
  obtain⟨x,t,rfl⟩:=w1.all a ha
  obtain⟨y,t',rfl⟩:=w1.all c hc
  exact List.not_lt.mp (of_decide_eq_false hac)
 have I1:Inv X pins σ H { s with heap:=h1,toks:=tk }:=I.kept (t':=tk) x1
 refine⟨.ref h1.objs.size,upd H h1.objs.size (.lst ((sortS (kvs.map (·.1))).map V.str)),I1.laid (t':=tk) a3 (Nat.le_refl _) ?_,rfl,q _ (I1.hok.fresh (Nat.le_refl _))⟩
 refine⟨?_,out,e,?_,a4⟩
 ·rw[List.length_map,hs,List.length_map,a1.length_eq,Array.length_toList,it.1,← rel.length]
  exact z
 ·rw[hs]
  exact strs_vals w1
noncomputable def fSortD (i:Nat):FL:=fun d=>match d[i]? with | some (some (.dct _ kvs))=>some ((sortS (kvs.map (·.1))).map Th.str) | _=>none
theorem pf_sortD {X:Cx} {o:Expr} {i:Nat} {p pos:Pos} (hc:X.calm=true) (hg:Gl X "sorted") (hm:X.mg "sorted"=none) (ho:PE X o (tVar i))
  (he:starEach [o] X.env=(false,eval o X.env)::starEach [] X.env:=by rfl) (hpl:(backTo pos (starEach ([]:List Expr) X.env)).any (·.1)=false:=by rfl):PF X (.Call (.Name "sorted" p) [o] [] pos) (fSortD i) :=
 PE.imp (pe_callB (call_sortD hc) hg hm (by rfl) (pa_cons ho pa_nil he) (by decide) (by decide) he hpl) fun σ H Q ⟨O,d,T,R,e,q⟩=>by
  unfold fSortD at e
  split at e
  ·rename_i fz kvs hd
   cases e
   obtain⟨a,h1,h2,h3,h4⟩:=R.dct i fz kvs hd
   refine⟨_,h2,a,kvs,rfl,h3.rd,fun b hb=>?_⟩
   refine q _ _ (Same.upd hb) ⟨b,_,rfl,hb,upd_same,?_⟩
   have bs:∀ (l:List Str) (H:Hp),BearsL X.K H (l.map V.str) (l.map Th.str):=fun l H=>by
    induction l with
    |nil=>exact .nil
    |cons x l ih=>exact .cons (.str x) ih
   exact bs _ _
  ·cases e
end L2
namespace Sg
open PySem PyProof.Rows PySem.Spec PySem.W
section
variable {prog:Program}{w:World}{A:Around}{E:Value→Shared→Prop}{s:Shared}{O:KeyOrd}{key:Keyed→O.α}{G:Keyed→Prop}{kd:SortKind}{h:Heap}{keys vs:List Value}
theorem key_tail {a kS:Addr} {e e1:Nat} {st:SortSt} {P:Fin→Shared→Prop} (ho:s.heap.get? a=some (seqObj "list" #[] e1)) (hk:s.heap.get? kS=some (seqObj "list" keys.toArray e)) (hne:kS≠a) (hkz:keys.length≤sizeLine)
  (hf:failedOf st=none) (hsz:(arrOf st).size≤sizeLine)
  (hP:∀ h',(∀ b o,b≠a→b≠kS→s.heap.get? b=some o→h'.get? b=some o)→(∃ n,h'.get? a=some (seqObj "list" ((arrOf st).map (·.2)) n))→P (.done (.ret .none)) { s with heap:=h' }) :
  wpAny (model prog w) A (ksk_tail a false e1 (.ref kS) st) P E s:=by
 have hs2:((arrOf st).map (·.2)).size≤sizeLine+1:=by rw[Array.size_map]; lia
 unfold ksk_tail
 refine wpAny_bind (listUpdate_at hk rfl ?_ (by simpa using hkz) (Nat.zero_le _))
 refine wpAny_bind (wpAny_letGo ?_)
 have ho2:(s.heap.update kS (Obj.mapSeq fun _=>#[])).get? a=some (seqObj "list" #[] e1):=by
  rw[Heap.get?_update_ne _ _ _ _ hne.symm]; exact ho
 refine wpAny_bind (seqEpoch_at ho2 rfl ?_)
 refine wpAny_bind (listUpdate_at ho2 rfl ?_ (Nat.zero_le _) (by simpa using hs2))
 rw[hf]
 simp only[bne_self_eq_false,Bool.false_eq_true,if_false]
 refine wpAny_pure (hP _ (fun b o h1 h2 e=>?_) ?_)
 ·rw[Heap.get?_update_ne _ _ _ _ h1,Heap.get?_update_ne _ _ _ _ h2]
  exact e
 ·exact⟨_,get?_update_seq ho2 _⟩
theorem key_outs {xs:Array Keyed}{ps:List Keyed}(hp:xs.Perm ps.toArray)(hu:Up key xs.toList):(xs.toList).Perm ps∧xs.toList.Pairwise fun a b=>O.kle (key a) (key b) :=
 ⟨by simpa using Array.perm_iff_toList_perm.mp hp,hu⟩
theorem key_end {a kS:Addr}{e e1:Nat}{P:Fin→Shared→Prop}(S:Sorts prog w h keys O key G kd)(hG:∀ k v,G (k,k)→G (k,v))(hl:keys.length=vs.length)
  (ho:s.heap.get? a=some (seqObj "list" #[] e1)) (hk:s.heap.get? kS=some (seqObj "list" keys.toArray e)) (hne:kS≠a) (he:Ext h s.heap) (hz:vs.length≤sizeLine)
  (hP:∀ (out:List Keyed) h',out.Perm (keys.zip vs)→(out.Pairwise fun a b=>O.kle (key a) (key b))→(∀ b o,b≠a→b≠kS→s.heap.get? b=some o→h'.get? b=some o)→(∃ n,h'.get? a=some (seqObj "list" (out.map (·.2)).toArray n)) →
   P (.done (.ret .none)) { s with heap:=h' }) :
  wpAny (model prog w) A (ksk_end a false vs.toArray e1 (.ref kS) keys.toArray) P E s:=by
 have hzip:keys.toArray.zip vs.toArray=(keys.zip vs).toArray:=by simp
 have hzl:(keys.zip vs).length=vs.length:=by rw[List.length_zip]; lia
 have hlen:vs.toArray.size=vs.length:=by simp
 unfold ksk_end
 simp only[Bool.false_eq_true,if_false]
 by_cases h2:vs.toArray.size<2
 ·rw[if_pos h2]
  refine wpAny_bind (wpAny_pure ?_)
  rw[if_pos h2,StateT.run_pure]
  refine wpAny_bind (wpAny_pure ?_)
  refine key_tail ho hk hne (by lia) rfl (by show (keys.toArray.zip vs.toArray).size≤_; rw[hzip]; simp; lia) fun h' k1 k2=>?_
  refine hP (keys.zip vs) h' (List.Perm.refl _) ?_ k1 ?_
  ·have:(keys.zip vs).length<2:=by lia
   rcases hq:keys.zip vs with _ | ⟨v,_ | ⟨v2,r⟩⟩
   ·exact List.Pairwise.nil
   ·exact List.pairwise_singleton _ _
   ·rw[hq] at this; simp at this; lia
  ·obtain⟨n,q⟩:=k2
   refine⟨n,?_⟩
   rw[q]
   show some (seqObj "list" ((keys.toArray.zip vs.toArray).map (·.2)) n)=_
   rw[hzip,List.map_toArray]
 ·rw[if_neg h2]
  refine wpAny_bind (S.kind (by lia) _ _ _ _ he ?_)
  rw[if_neg h2]
  have g0:∀ x∈((keys.zip vs).toArray).toList,G x:=by
   intro x q
   have q:x∈keys.zip vs:=by simpa using q
   obtain⟨x1,x2⟩:=x
   exact hG _ _ (S.good _ (List.of_mem_zip q).1)
  refine wpAny_bind (wpAny_mono (wpS_runs (a₀:=(keys.zip vs).toArray) (key:=key) (G:=G) (kd:=kd) (st:=SortSt.mk' kd (keys.toArray.zip vs.toArray) #[] 7 none)
   (Q:=fun _ st'=>(arrOf st').Perm (keys.zip vs).toArray∧failedOf st'=none∧Up key (arrOf st').toList)
   (S.asks _ he) g0 (by show (keys.toArray.zip vs.toArray).Perm _; rw[hzip]) rfl rfl rfl fun st' a1 a2 a3=>⟨a1,a2,a3⟩) ?_ fun _ _ e=>e)
  rintro⟨⟨⟩,st'⟩ s' ⟨rfl,hp,hf,hs⟩
  have z:=key_outs hp hs
  refine key_tail ho hk hne (by lia) hf (Nat.le_trans (Nat.le_of_eq (hp.size_eq.trans (by simp; lia))) hz) fun h' k1 k2=>?_
  refine hP _ h' z.1 z.2 k1 ?_
  obtain⟨n,q⟩:=k2
  exact⟨n,by rw[q,← Array.toList_map]⟩
end
end Sg
namespace L2
open PySem PySem.Spec PyProof.Rows PySem.W
section
variable {X:Cx}{pins:List (Addr×Obj)}{σ:St}{H:Hp}{s:Shared}
def Cx.within (X:Cx)(A':Around):Cx:={ X with A:=A',xe:=fun _ _=>False }
theorem Inv.within (I:Inv X pins σ H s){A':Around}(h1:A'.handled=X.A.handled)(h2:A'.frames=X.A.frames):Inv (X.within A') pins σ H s :=
 let k:=I.ok
 ⟨⟨k.mod,k.kind,k.glob,k.blt,k.above,k.inj,k.has,k.cab,fun h=>h1.trans (k.hd h),h2.trans k.frames,k.stk,k.exf,k.bs,k.bsz,k.noex,k.exfs,k.funs,k.frf⟩,I.os,I.bare,I.base,I.loc,I.cell,I.free,I.freeC,I.pin,I.hok,I.len⟩
theorem Inv.without {A':Around}(I0:X.Ok)(I:Inv (X.within A') pins σ H s):Inv X pins σ H s :=
 ⟨I0,I.os,I.bare,I.base,I.loc,I.cell,I.free,I.freeC,I.pin,I.hok,I.len⟩
structure KeysAt (X:Cx)(pins:List (Addr×Obj))(σ:St)(H:Hp)(O:Hid)(kS:Addr)(kts:List Th)(j:Nat)(s:Shared):Prop where
 ex:∃ H' ks kv e,Inv X pins σ H' s∧Same H H'∧FpOk X pins H' kS∧s.heap.get? kS=some (seqObj "list" (List.toArray ks) e)∧Vals kv ks∧BearsL X.K (less H' O) kv (kts.take j)∧ks.length=j
theorem keys_step {k:Nat}{f kS:Addr}{fd:FuncData}{ps:List Str}{φ:List Th→Option Th}{O:Hid}{kts:List Th}{j:Nat}{x:Value}{y:V}{t kt:Th}(F:FnOk X.prog X.w X.K X.mg X.base CX0 k f fd ps (spF X.K φ))(hb:Binds X.K fd ps [])(hr:Room k X.A)
  (hO:∀ b,O.has b→∃ o,H b=some o) (rx:RelV y x) (by':Bears X.K (less H O) y t) (hφ:φ [t]=some kt) (hk:kts[j]?=some kt) (hj:j≤sizeLine) (K:KeysAt X pins σ H O kS kts j s) :
  wpAny (model X.prog X.w) X.A (call (.ref f) [x]) (fun k s'=>wpAny (model X.prog X.w) X.A (Builtin.List.listUpdate (.ref kS) (·.push k)) (fun _ s''=>KeysAt X pins σ H O kS kts (j+1) s'') X.xe s') X.xe s:=by
 obtain⟨H',ks,kv,e,I,sm,fp,hS,rv,bk,hl⟩:=K.ex
 obtain⟨f0,f1,f2,f3,f4,f5⟩:=fp
 have I2:Inv X (pins++[(kS,seqObj "list" (List.toArray ks) e)]) σ H' s:=I.pins_of fun p hp=>by
  rcases List.mem_append.mp hp with q | q
  ·exact I.pin p (List.mem_append_right _ q)
  ·rw[List.mem_singleton] at q
   subst q
   exact⟨hS,f0,f1,f2,fun v z=>by cases z⟩
 refine thn (run_fn (Q:=fun v H2=>Same H' H2∧Bears X.K (less H2 O) v kt) F hr hb .nil pass0 I2 (.cons rx .nil) ?_) fun u s1 ⟨v,H2,I3,rv2,s2,b2⟩=>?_
 ·show spF X.K φ [y] H' _ E0
  refine⟨O.has,[t],kt,fun b hb=>?_,?_,hφ,fun v H2 s2 b2=>⟨s2,?_⟩⟩
  ·obtain⟨o,ho⟩:=hO b hb
   exact⟨o,sm _ _ ho⟩
  ·rw[less_has]
   exact .cons (by'.mono (less_mono sm)) .nil
  ·rw[less_has] at b2
   exact b2
 ·obtain⟨e1,n1,-⟩:=I3.pin (kS,seqObj "list" (List.toArray ks) e) (List.mem_append_right _ (List.mem_append_right _ List.mem_cons_self))
  have I4:Inv X pins σ H2 s1:=I3.pins_of fun p hp=>I3.pin p (List.mem_append_right _ (List.mem_append_left _ hp))
  refine listUpdate_at e1 rfl ?_ (by rw[List.size_toArray,hl]; exact hj) (by rw[Array.size_push,List.size_toArray,hl]; lia)
  have I5:=I4.turned (it:=kS) (t':=s1.toks) (h':=s1.heap.update kS (Obj.mapSeq (·.push u))) (fun b o hb q=>by rw[Heap.get?_update_ne _ _ _ _ hb]; exact q) n1 f1 f3 f4 f5
  have hS':=get?_update_seq e1 (·.push u)
  rw[List.push_toArray] at hS'
  refine⟨H2,ks++[u],kv++[v],_,I5,sm.trans s2,⟨n1,f1,f2,f3,f4,f5⟩,hS',rv.append (.cons rv2 .nil),?_,by simp[hl]⟩
  rw[List.take_add_one,hk]
  exact (bk.mono (less_mono s2)).append (.cons b2 .nil)
theorem keys_rest {k:Nat}{f kS a:Addr}{fd:FuncData}{ps:List Str}{φ:List Th→Option Th}{O:Hid}{ts kts:List Th}{us:List Value}{ys:List V}{e1:Nat}{P:PySem.Fin→Shared→Prop}{E:Value→Shared→Prop}
  (F:FnOk X.prog X.w X.K X.mg X.base CX0 k f fd ps (spF X.K φ)) (hb:Binds X.K fd ps []) (hr:Room k X.A) (hO:∀ b,O.has b→∃ o,H b=some o) (hxe:∀ e s,X.xe e s→False) (rv:Vals ys us) (b:BearsL X.K (less H O) ys ts) (hk:Paired (fun t kt=>φ [t]=some kt) ts kts) (hz:us.length≤sizeLine)
  (K0:KeysAt X pins σ H O kS kts 0 s)
  (hE:∀ s',KeysAt X pins σ H O kS kts us.length s'→wpAny (model X.prog X.w) X.A (Builtin.List.listItems (.ref kS)>>=fun keys=>ksk_end a false us.toArray e1 (.ref kS) keys) P E s') :
  wpAny (model X.prog X.w) X.A (ksk_rest a (.ref f) false us.toArray e1 (.ref kS)) P E s:=by
 unfold ksk_rest
 refine wpAny_bind (wpAny_rule ?_)
 first
  |rw[List.forIn_toArray]
  |(rw[← Array.forIn_toList]; simp only[List.toList_toArray])
  |rw[← Array.forIn_toList]
 refine wpAny_bind (ksk_fold (fun i s'=>KeysAt X pins σ H O kS kts i s') us 0 s K0 ?_ ?_)
 ·intro j x s' hx K
  rw[Nat.zero_add] at K ⊢
  have hj:j<us.length:=(List.getElem?_eq_some_iff.mp hx).1
  have hy:j<ys.length:=by rw[rv.length]; exact hj
  have ht:j<ts.length:=by rw[← b.length]; exact hy
  obtain⟨kt,hkt,eφ⟩:∃ kt,kts[j]?=some kt∧φ [ts[j]]=some kt:=by
   have hkl:kts.length=ts.length:=hk.length.symm
   obtain⟨t',h1,h2⟩:=paired_at hk (i:=j) (List.getElem?_eq_getElem (by lia))
   rw[List.getElem?_eq_getElem ht] at h1
   cases h1
   exact⟨_,List.getElem?_eq_getElem (by lia),h2⟩
  obtain⟨y,hyy,byy⟩:=b.get (List.getElem?_eq_getElem ht)
  obtain⟨u,hu,ru⟩:=rv.get hyy
  rw[hx] at hu
  cases hu
  refine wpAny_bind (wpAny_attempt (wpAny_mono (keys_step F hb hr hO ru byy eφ hkt (by lia) K) (fun v s'' q=>?_) fun e s'' q=>(hxe e s'' q).elim))
  refine wpAny_bind (wpAny_mono q (fun _ s3 q3=>wpAny_pure ⟨rfl,q3⟩) fun e s3 q3=>(hxe e s3 q3).elim)
 ·intro s' K
  rw[Nat.zero_add] at K
  exact hE s' K
end
end L2
namespace L2
open PySem PySem.Spec PyProof.Rows PySem.W
section
variable {X:Cx}{pins:List (Addr×Obj)}{σ:St}{H:Hp}{s:Shared}
theorem pair_is (I:Inv X pins σ H s){v:V}{u:Value}{i:Int}{j:Str}(b:Bears X.K H v (.tup [.int i,.str j]))(r:RelV v u){h:Heap}(hX:Sg.Ext s.heap h):Sg.IsPair Sg.intAtom Sg.strAtom h u ((i:Int),j.cps.toList):=pair_at I b r (fun _ _=>key_i) (fun _ _=>key_s) hX
def isIS:Th→Bool
 |.tup [a,b]=>isIn a&&isSt b
 |_=>false
theorem isIS_of {t:Th}(h:isIS t=true):∃ i x,t=.tup [.int i,.str x]:=by
 cases t with
 |tup l =>
  cases l with
  |nil=>cases h
  |cons a l=>cases l with
   |nil=>cases h
   |cons b l=>cases l with
    |nil =>
     have h:(isIn a&&isSt b)=true:=h
     rw[Bool.and_eq_true] at h
     obtain⟨i,rfl⟩:=isIn_of h.1
     obtain⟨x,rfl⟩:=isSt_of h.2
     exact⟨i,x,rfl⟩
    |cons=>cases h
 |_=>cases h
inductive leK:Th→Th→Prop where
 |is {a c:Int} {b d:Str} (h:a<c∨(a=c∧leS b d)):leK (.tup [.int a,.str b]) (.tup [.int c,.str d])
theorem leK_anti {x y:Th}(h1:leK x y)(h2:leK y x):x=y:=by
 cases h1 with
 |@is a c b d h=>cases h2 with
  |is h' =>
   have e1:a=c:=by lia
   subst e1
   have q1:leS b d:=by rcases h with z | z; exact absurd z (by lia); exact z.2
   have q2:leS d b:=by rcases h' with z | z; exact absurd z (by lia); exact z.2
   rw[leS_anti q1 q2]
theorem keys_pairs (I:Inv X pins σ H s):∀ {kv:List V} {ks:List Value} {kts:List Th},Vals kv ks→BearsL X.K H kv kts→kts.all isIS=true→∀ u∈ks,∃ k,Sg.IsPair Sg.intAtom Sg.strAtom s.heap u k
 |_,_,_,.nil,.nil,_,u,h=>nomatch h
 |_,_,_,.cons r rs,.cons b bs,ha,u,h=>by
  rw[List.all_cons,Bool.and_eq_true] at ha
  rcases List.mem_cons.mp h with rfl | h
  ·obtain⟨i,x,rfl⟩:=isIS_of ha.1
   exact⟨_,pair_is I b r fun _ _ e=>e⟩
  ·exact keys_pairs I rs bs ha.2 u h
end
end L2
namespace L2
open PySem PySem.Spec PyProof.Rows PySem.W
def KeyLe (φ:List Th→Option Th)(a b:Th):Prop:=∃ x y,φ [a]=some x∧φ [b]=some y∧leK x y
structure KeyOk (φ:List Th→Option Th)(ts:List Th):Prop where
 st:ts.all isSt=true
 is:∀ t∈ts,∃ k,φ [t]=some k∧isIS k=true
 inj:∀ t∈ts,∀ u∈ts,φ [t]=φ [u]→t=u
theorem KeyOk.anti {φ:List Th→Option Th}{ts:List Th}(k:KeyOk φ ts){a b:Th}(ha:a∈ts)(hb:b∈ts)(h1:KeyLe φ a b)(h2:KeyLe φ b a):a=b:=by
 obtain⟨x,y,e1,e2,l1⟩:=h1
 obtain⟨y',x',e3,e4,l2⟩:=h2
 rw[e2] at e3
 rw[e1] at e4
 cases e3
 cases e4
 exact k.inj a ha b hb (by rw[e1,e2,leK_anti l1 l2])
open Classical in
noncomputable def sortK (φ:List Th→Option Th)(ts:List Th):Option (List Th):=if h:KeyOk φ ts∧∃ r:List Th,r.Perm ts∧r.Pairwise (KeyLe φ) then some h.2.choose else none
theorem sortK_of {φ:List Th→Option Th}{ts r:List Th}(k:KeyOk φ ts)(hp:r.Perm ts)(hs:r.Pairwise (KeyLe φ)):sortK φ ts=some r:=by
 have h:KeyOk φ ts∧∃ r:List Th,r.Perm ts∧r.Pairwise (KeyLe φ):=⟨k,r,hp,hs⟩
 unfold sortK
 rw[dif_pos h,List.Perm.eq_of_pairwise (fun a b ha hb=>k.anti (h.2.choose_spec.1.mem_iff.mp ha) (hp.mem_iff.mp hb)) h.2.choose_spec.2 hs (h.2.choose_spec.1.trans hp.symm)]
theorem sortK_ok {φ:List Th→Option Th}{ts r:List Th}(h:sortK φ ts=some r):KeyOk φ ts:=by
 unfold sortK at h
 split at h
 ·rename_i z; exact z.1
 ·cases h
theorem lex_is {x1 y1:Int}{x2 y2:List Nat}(h:(decide (y1<x1)||(!decide (x1<y1)&&decide (y2<x2)))=false):leK (.tup [.int x1,.str ⟨x2.toArray⟩]) (.tup [.int y1,.str ⟨y2.toArray⟩]):=by
 refine .is ?_
 simp only[Bool.or_eq_false_iff,Bool.and_eq_false_iff,Bool.not_eq_false',decide_eq_false_iff_not,decide_eq_true_eq] at h
 obtain⟨a1,a2⟩:=h
 rcases a2 with z | z
 ·exact .inl z
 ·by_cases q:x1<y1
  ·exact .inl q
  ·exact .inr ⟨by lia,List.not_lt.mp z⟩
noncomputable def thIS (h:Heap)(u:Value):Th:=let k:=Sg.pairKey Sg.intAtom Sg.strAtom h u; .tup [.int (show Int from k.1),.str ⟨List.toArray (show List Nat from k.2)⟩]
section
variable {X:Cx}{pins:List (Addr×Obj)}{σ:St}{H:Hp}{s:Shared}{φ:List Th→Option Th}
theorem keys_of:∀ {ts:List Th},(∀ t∈ts,∃ k,φ [t]=some k∧isIS k=true)→∃ kts,Paired (fun t kt=>φ [t]=some kt) ts kts∧kts.all isIS=true
 |[],_=>⟨[],.nil,rfl⟩
 |t::ts,h=>by
  obtain⟨kts,p,a⟩:=keys_of (ts:=ts) fun u hu=>h u (List.mem_cons_of_mem _ hu)
  obtain⟨k,e,i⟩:=h t List.mem_cons_self
  exact⟨k::kts,.cons e p,by rw[List.all_cons,i,a]; rfl⟩
theorem zip_keys (I:Inv X pins σ H s){H2:Hp}{kts ts:List Th}(es:Paired (fun t kt=>φ [t]=some kt) ts kts):∀ {kv ys:List V} {ks us:List Value},Vals kv ks→BearsL X.K H kv kts→Vals ys us→BearsL X.K H2 ys ts→kts.all isIS=true→ts.all isSt=true →
  ∀ p∈ks.zip us,φ [.str (strOf p.2)]=some (thIS s.heap p.1):=by
 induction es with
 |nil =>
  intro kv ys ks us r1 b1 r2 b2 _ _ p h
  cases b1
  cases r1
  simp at h
 |cons e es ih =>
  intro kv ys ks us r1 b1 r2 b2 ak at' p h
  cases b1 with
  |cons b1 bs1=>cases r1 with
   |cons r1 rs1=>cases b2 with
    |cons b2 bs2=>cases r2 with
     |cons r2 rs2 =>
      rw[List.all_cons,Bool.and_eq_true] at ak at'
      rw[List.zip_cons_cons] at h
      rcases List.mem_cons.mp h with rfl | h
      ·obtain⟨i,x,rfl⟩:=isIS_of ak.1
       obtain⟨z,rfl⟩:=isSt_of at'.1
       have q:=pair_is I b1 r1 (fun _ _ e=>e)
       cases b2
       obtain⟨t2,rfl⟩:=r2
       unfold thIS
       rw[Sg.pairKey_of q]
       exact e.trans (by simp)
      ·exact ih rs1 bs1 rs2 bs2 ak.2 at'.2 p h
theorem texts_of {K:PySem.W.Frag}:∀ {ys:List V} {us:List Value} {ts:List Th},Vals ys us→BearsL K H ys ts→ts.all isSt=true→us.map (fun u=>Th.str (strOf u))=ts∧∀ u∈us,∃ x t,u=.str x t
 |_,_,_,.nil,.nil,_=>⟨rfl,fun _ h=>nomatch h⟩
 |_,_,_,.cons r rs,.cons b bs,h=>by
  rw[List.all_cons,Bool.and_eq_true] at h
  obtain⟨i1,i2⟩:=texts_of rs bs h.2
  obtain⟨x,rfl⟩:=isSt_of h.1
  cases b
  obtain⟨t,rfl⟩:=r
  refine⟨by rw[List.map_cons,i1]; rfl,fun u m=>?_⟩
  rcases List.mem_cons.mp m with rfl | m
  ·exact⟨_,_,rfl⟩
  ·exact i2 u m
theorem bears_texts {K:PySem.W.Frag}:∀ {us:List Value},(∀ u∈us,∃ x t,u=.str x t)→BearsL K H (us.map nuV) (us.map fun u=>Th.str (strOf u))
 |[],_=>.nil
 |u::us,h=>by
  obtain⟨x,t,rfl⟩:=h u List.mem_cons_self
  exact .cons (.str x) (bears_texts fun u m=>h u (List.mem_cons_of_mem _ m))
theorem call_sortK {k:Nat}{f a:Addr}{fd:FuncData}{ps:List Str}{O:Hid}{xs:List V}{ts r:List Th}{Q:VK}(F:FnOk X.prog X.w X.K X.mg X.base CX0 k f fd ps (spF X.K φ))(hb:Binds X.K fd ps [])(hr:Room (k+2) X.A)
  (hO:∀ b,O.has b→∃ o,H b=some o) (I:Inv X pins σ H s) (hq:SqT X.K H a xs) (bx:BearsL X.K (less H O) xs ts) (hs:sortK φ ts=some r) (hQ:∀ v H',Same H H'→Fresh X.K H H' O v r→Q v H') :
  wpAny (model X.prog X.w) X.A (call (.builtin "sorted") [.ref a] [(Str.ofString "key",.ref f)]) (EP X pins σ Q) X.xe s:=by
 obtain⟨us,rv,⟨o,ho,hc,n,hd⟩,hz⟩:=I.tuple hq
 have hz:us.length≤sizeLine:=by rw[← rv.length]; exact hz
 have ok:=sortK_ok hs
 obtain⟨kts,pk,ak⟩:=keys_of ok.is
 refine call_function_entry_kw kind_sorted plain_sorted entry_sorted (ksk_s1 _ _) ?_
 unfold Builtin.«sorted»
 refine wpAny_bind (m:=checkCount "sorted" 1 1 _) (wpAny_pure ?_)
 refine wpAny_bind (wpAny_collect_seq a (T:="tuple") (.inr rfl) ho hc hd (fun h1 x1=>?_) (by simpa using hz))
 rw[List.toList_toArray]
 refine wpAny_bind (wpAny_newList ?_ hz)
 have I1:Inv X pins σ H { s with heap:=h1 }:=I.kept (t':=s.toks) x1
 have fpL:=I1.fpOk (b:=h1.objs.size) (Nat.le_refl _) (I1.hok.fresh (Nat.le_refl _))
 have hoL:(h1.push (seqObj "list" us.toArray 0)).get? h1.objs.size=some (seqObj "list" us.toArray 0):=Heap.get?_push_size _ rfl
 show wpAny _ _ _ _ _ { s with heap:=h1.push (seqObj "list" us.toArray 0) }
 refine wpAny_bind (wpAny_holding (wpAny_call_entry_kw slot_list_sort ⟨_,hoL,rfl⟩ entry_list_sort ?body (ksk_l1 _ _)))
 case body =>
  show wpAny (model X.prog X.w) X.A.in1.in1 (Builtin.«list.sort» ⟨[.ref h1.objs.size],[(Str.ofString "key",.ref f)]⟩) _ _ _
  rw[ksk_t1]
  unfold ksk_tree
  refine wpAny_bind (listItems_at hoL rfl ?_)
  refine wpAny_bind (listUpdate_at hoL rfl ?_ (by simpa using hz) (Nat.zero_le _))
  obtain⟨e1,ho1⟩:∃ e1,((h1.push (seqObj "list" us.toArray 0)).update h1.objs.size (Obj.mapSeq fun _=>#[])).get? h1.objs.size=some (seqObj "list" #[] e1):=⟨_,get?_update_seq hoL (fun _=>#[])⟩
  refine wpAny_bind (seqEpoch_at ho1 rfl ?_)
  refine wpAny_bind (wpAny_newTuple ?_ (by simpa using hz))
  have x3:Sg.Ext h1 (((h1.push (seqObj "list" us.toArray 0)).update h1.objs.size (Obj.mapSeq fun _=>#[])).push (seqObj "tuple" us.toArray 0)):=fun b o e=>by
   refine Heap.get?_push_of_some _ ?_
   rw[Heap.get?_update_ne _ _ _ _ (Nat.ne_of_lt (Heap.lt_size e))]
   exact Heap.get?_push_of_some _ e
  have ho3:=Heap.get?_push_of_some (seqObj "tuple" us.toArray 0) ho1
  generalize hh3:((h1.push (seqObj "list" us.toArray 0)).update h1.objs.size (Obj.mapSeq fun _=>#[])).push (seqObj "tuple" us.toArray 0)=h3 at x3 ho3
  have I3:Inv X (pins++[(h1.objs.size,seqObj "list" #[] e1)]) σ H { s with heap:=h3 }:=(I1.kept (t':=s.toks) x3).pins_of fun p hp=>by
   rcases List.mem_append.mp hp with q | q
   ·exact (I1.kept (t':=s.toks) x3).pin p (List.mem_append_right _ q)
   ·rw[List.mem_singleton] at q
    subst q
    exact⟨ho3,fpL.1,fpL.2.1,fpL.2.2.1,fun v z=>by cases z⟩
  have I3':Inv (X.within X.A.in1.in1) (pins++[(h1.objs.size,seqObj "list" #[] e1)]) σ H { s with heap:=h3 }:=I3.within rfl rfl
  have fpK:=I3'.fpOk (b:=h3.objs.size) (Nat.le_refl _) (I3'.hok.fresh (Nat.le_refl _))
  have hne:h3.objs.size≠h1.objs.size:=Nat.ne_of_gt (Heap.lt_size ho3)
  have I4:Inv (X.within X.A.in1.in1) (pins++[(h1.objs.size,seqObj "list" #[] e1)]) σ H { s with heap:=h3.push (seqObj "list" #[] 0) }:=I3'.kept (t':=s.toks) fun b u e=>Heap.get?_push_of_some _ e
  refine wpAny_bind (wpAny_newList ?_ (Nat.zero_le _))
  refine wpAny_holding ?_
  show wpAny _ _ _ _ _ { s with heap:=h3.push (seqObj "list" #[] 0) }
  refine keys_rest (X:=X.within X.A.in1.in1) F hb hr.in1.in1 hO (fun e s h=>h) rv bx pk hz ⟨H,[],[],0,I4,fun _ _ e=>e,fpK,Heap.get?_push_size _ rfl,.nil,.nil,rfl⟩ fun s' K=>?_
  obtain⟨H',ks,kv,e,I7,sm,fp7,hS7,rvk,bk,hl⟩:=K.ex
  have hkl:kts.length=us.length:=by rw[← pk.length,← bx.length,rv.length]
  rw[List.take_of_length_le (by lia)] at bk
  obtain⟨pL,nL,-⟩:=I7.pin (h1.objs.size,seqObj "list" #[] e1) (List.mem_append_right _ (List.mem_append_right _ List.mem_cons_self))
  refine wpAny_bind (listItems_at hS7 rfl ?_)
  have bk2:=bk.mono (less_sub H' O)
  refine Sg.key_end (Sg.sorts_pairs Sg.intAtom Sg.strAtom s'.heap (keys_pairs I7 rvk bk2 ak)) (fun k v h=>h) hl pL hS7 hne (Sg.Ext.refl _) hz fun out h' o1 o2 keep hL'=>⟨_,rfl,?_⟩
  refine wpAny_pure ⟨_,rfl,?_⟩
  obtain⟨n',hL'⟩:=hL'
  have zk:=zip_keys I7 pk rvk bk2 rv bx ak ok.st
  obtain⟨tx1,tx2⟩:=texts_of rv bx ok.st
  have mo:∀ p∈out,p∈ks.zip us:=fun p hp=>o1.mem_iff.mp hp
  have mu:∀ u∈out.map (·.2),u∈us:=fun u hu=>by
   obtain⟨p,hp,rfl⟩:=List.mem_map.mp hu
   exact (List.of_mem_zip (a:=p.1) (b:=p.2) (mo p hp)).2
  have er:r=(out.map (·.2)).map fun u=>Th.str (strOf u):=by
   have pm:((out.map (·.2)).map fun u=>Th.str (strOf u)).Perm ts:=by
    have z:=(o1.map (·.2)).map fun u=>Th.str (strOf u)
    rw[List.map_snd_zip (by lia),tx1] at z
    exact z
   have pw:((out.map (·.2)).map fun u=>Th.str (strOf u)).Pairwise (KeyLe φ):=by
    rw[List.pairwise_map,List.pairwise_map]
    refine o2.imp_of_mem fun {p q} hp hq' hle=>⟨_,_,zk p (mo p hp),zk q (mo q hq'),?_⟩
    have hle:(Sg.lexOrd Sg.intOrd strKind.toKeyOrd).blt (Sg.pairKey Sg.intAtom Sg.strAtom s'.heap q.1) (Sg.pairKey Sg.intAtom Sg.strAtom s'.heap p.1)=false:=hle
    unfold thIS
    generalize Sg.pairKey Sg.intAtom Sg.strAtom s'.heap p.1=x at hle
    generalize Sg.pairKey Sg.intAtom Sg.strAtom s'.heap q.1=y at hle
    obtain⟨x1,x2⟩:=x
    obtain⟨y1,y2⟩:=y
    exact @lex_is x1 y1 x2 y2 hle
   have:=sortK_of ok pm pw
   rw[hs] at this
   exact Option.some.inj this
  have lo:(out.map (·.2)).length=us.length:=by rw[List.length_map,o1.length_eq,List.length_zip]; lia
  have I8:Inv X pins σ H' s':=Inv.without I.ok (I7.pins_of fun p hp=>I7.pin p (List.mem_append_right _ (List.mem_append_left _ hp)))
  have I9:Inv X pins σ H' { s' with heap:=h' }:=I8.turned2 (t':=s'.toks) (e:=h1.objs.size) (it:=h3.objs.size) (fun b o b1 b2 q=>keep b o b1 b2 q) nL fpL.2.1 fpL.2.2.2.1 fpL.2.2.2.2.1 fpL.2.2.2.2.2
   fp7.1 fp7.2.1 fp7.2.2.2.1 fp7.2.2.2.2.1 fun p hp=>fp7.2.2.2.2.2 p (by
    rcases List.mem_append.mp hp with q | q
    ·exact List.mem_append_left _ q
    ·exact List.mem_append_right _ (List.mem_append_left _ q))
  have s0:X.s₀.heap.objs.size≤h1.objs.size:=I1.sz
  refine⟨.ref h1.objs.size,upd H' h1.objs.size (.lst ((out.map (·.2)).map nuV)),I9.track nL s0 fpL.2.1 fpL.2.2.2.2.1 fpL.2.2.2.2.2 ⟨?_,_,n',vals_of_rel fun u hu=>vals_rel rv u (mu u hu),hL'⟩,rfl,?_⟩
  ·rw[List.length_map,lo]; exact hz
  ·refine hQ _ _ (sm.trans (Same.upd nL)) ⟨_,_,rfl,fpL.1,upd_same,?_⟩
   rw[er]
   exact bears_texts fun u hu=>tx2 u (mu u hu)
end
section
variable {X:Cx}{K:PySem.W.Frag}{e:Expr}{fs:FL}{p pos kp kq:Pos}{k:Nat}{x:Str}{φ:List Th→Option Th}
noncomputable def fSortK (φ:List Th→Option Th)(fs:FL):FL:=fun d=>(fs d).bind fun Ts=>match Ts with | [.tup ts]=>sortK φ ts | _=>none
theorem pf_sortK (c:Callee X.prog X.w X.K X.mg X.base k x φ) (hr:Room (k+2) X.A) (hx:Gl X x) (hg:Gl X "sorted") (hm:X.mg "sorted"=none) (ha:PBA X [e] fs) (hdb:(x == ("__debug__":Str))=false:=by decide)
  (he:backTo pos (starEach [e] X.env)=(false,eval e X.env)::backTo pos (starEach [] X.env):=by rfl) (hplain:(backTo pos (starEach [e] X.env)).any (·.1)=false:=by rfl)
  (hall:(backToKw pos (keywordEach [⟨some (Str.ofString "key"),.Name x kq,kp⟩] X.env)).all (·.1.isSome)=true:=by rfl) (hkw:(backToKw pos (keywordEach [⟨some (Str.ofString "key"),.Name x kq,kp⟩] X.env)).any (·.1.isNone)=false:=by rfl)
  (hz:∀ v:Value,((backToKw pos (keywordEach [⟨some (Str.ofString "key"),.Name x kq,kp⟩] X.env)).filterMap (·.1)).zip [v]=[(Str.ofString "key",v)]:=by intro _; rfl) :
  PF X (.Call (.Name "sorted" p) [e] [⟨some (Str.ofString "key"),.Name x kq,kp⟩] pos) (fSortK φ fs):=by
 intro pins s σ H Q I ⟨O,d,T,R,ef,q⟩
 obtain⟨f,fd,ps,F,hmx,hk,hb⟩:=c.ex
 unfold fSortK at ef
 cases hf:fs d with
 |none=>rw[hf] at ef; cases ef
 |some Ts =>
  rw[hf] at ef
  match Ts,hf,ef with
  |[.tup ts],hf,ef =>
   change sortK φ ts=some T at ef
   refine wpAny_Call_Name_kw (ld_blt I hg hm (by rfl) ?_ (by decide) (by decide))
   refine callWith_kw ?_ he hplain hall hkw
   refine thn (ha pos pins s σ H _ I ⟨O,d,_,R,hf,fun vs H1 s1 b1=>(⟨s1,b1⟩:Same H H1∧Paired (Lent X.K H1 O) vs [.tup ts])⟩) fun us s1 ⟨vs,H1,I1,r1,sm,b1⟩=>?_
   obtain⟨v1,rfl,b3⟩:=paired1 b1
   obtain⟨u1,rfl,ru⟩:=vals1 r1
   obtain⟨a,xs,rfl,hq,bx⟩:=b3.tup
   cases ru
   refine kws_cons (ld_glob I1 hx hmx (kws_nil ?_) hdb)
   rw[hz]
   refine call_sortK F hb hr (fun b hb=>(R.mono sm).there b hb) I1 ((less_sub _ _).seqT hq) bx ef fun v H' s2 fr=>q v H' (sm.trans s2) ?_
   obtain⟨b,zs,h1,h2,h3,h4⟩:=fr
   refine⟨b,zs,h1,?_,h3,h4⟩
   cases hH:H b with
   |none=>rfl
   |some o=>rw[sm b o hH] at h2; cases h2
end
structure QD (X:Cx)(e:Expr)(f:FD):Prop where
 out:PD X e f
structure QB (X:Cx)(e:Expr)(f:FD):Prop where
 out:PB X e f
structure QF (X:Cx)(e:Expr)(f:FL):Prop where
 out:PF X e f
structure QT (X:Cx)(e:Expr)(f:FB):Prop where
 out:PDT X e f
structure QW (X:Cx)(e:Expr)(f:FB):Prop where
 out:PDW X e f
structure QA (X:Cx)(es:List Expr)(f:FL):Prop where
 out:PDA X es f
structure QBA (X:Cx)(es:List Expr)(f:FL):Prop where
 out:PBA X es f
structure QS (X:Cx)(st:Stmt)(f:FS):Prop where
 out:PDS X st f
structure QSs (X:Cx)(st:List Stmt)(f:FS):Prop where
 out:PDSs X st f
structure QG (X:Cx)(e:Expr)(f:FG):Prop where
 out:PDG X e f
structure QI (X:Cx)(tg e:Expr)(f:FL):Prop where
 out:PDI X tg e f
structure QIf (X:Cx)(es:List Expr)(f:FB):Prop where
 out:PDIf X es f
structure QO (X:Cx)(e:Option Expr)(f:FO):Prop where
 out:PDO X e f
structure QV (X:Cx)(e:Expr)(i:Nat):Prop where
 out:PE X e (tVar i)
section
variable {X:Cx}{e a b c:Expr}{f fa fb fc:FD}{pos:Pos}
theorem QD.pb (h:QD X e f):QB X e f:=⟨PD.pb (h:=h.out)⟩
theorem QF.pd {f:FL}(h:QF X e f):QD X e (fLst f):=⟨PF.pd (h:=h.out)⟩
theorem QW.pdt {f:FB}(h:QW X e f):QT X e f:=⟨PDW.pdt (h:=h.out)⟩
theorem qpd_var {i:Nat}{x:Str}(h:QV X (.Name x pos) i):QD X (.Name x pos) (fVar i):=⟨pd_var (h:=h.out)⟩
theorem qpb_var {i:Nat}{x:Str}(h:QV X (.Name x pos) i):QB X (.Name x pos) (fVarB i):=⟨pb_var (h:=h.out)⟩
theorem qpd_int {i j}:QD X (.Constant (.int i) j pos) (fC (.int i)):=⟨pd_int ⟩
theorem qpd_bl {i j}:QD X (.Constant (.bool i) j pos) (fC (.bl i)):=⟨pd_bl ⟩
theorem qpd_non {j}:QD X (.Constant .none j pos) (fC .non):=⟨pd_non ⟩
theorem qpd_str {i j}:QD X (.Constant (.str i) j pos) (fC (.str i)):=⟨pd_str ⟩
theorem qpdt_val (h:QD X e f)(he:∀ whole,isTrue e X.env whole=(do let v ← whole; standAt e.pos; holding [v] (truthy v)):=by intro _; rfl):QT X e (fTest f):=⟨pdt_val (h:=h.out) (he:=he)⟩
theorem qpdt_not {f:FB}(h:QT X a f):QT X (.UnaryOp .Not a pos) (fNot f):=⟨pdt_not (h:=h.out)⟩
theorem qpdw_and1 {f:FB}(h:QT X a f):QW X (.BoolOp .And [a] pos) f:=⟨pdw_and1 (h:=h.out)⟩
theorem qpdw_or1 {f:FB}(h:QT X a f):QW X (.BoolOp .Or [a] pos) f:=⟨pdw_or1 (h:=h.out)⟩
theorem qpdw_and {f g:FB}{rest:List Expr}(ha:QT X a f)(hb:QW X (.BoolOp .And (b::rest) pos) g):QW X (.BoolOp .And (a::b::rest) pos) (fAndT f g):=⟨pdw_and (ha:=ha.out) (hb:=hb.out)⟩
theorem qpdw_or {f g:FB}{rest:List Expr}(ha:QT X a f)(hb:QW X (.BoolOp .Or (b::rest) pos) g):QW X (.BoolOp .Or (a::b::rest) pos) (fOrT f g):=⟨pdw_or (ha:=ha.out) (hb:=hb.out)⟩
theorem qpd_if {c:Expr}{fc:FB}(hc:QT X c fc)(ha:QD X a fa)(hb:QD X b fb):QD X (.IfExp c a b pos) (fIf fc fa fb):=⟨pd_if (hc:=hc.out) (ha:=ha.out) (hb:=hb.out)⟩
theorem qpda_nil :QA X [] fNil:=⟨pda_nil ⟩
theorem qpda_cons {es:List Expr}{g:FL}(ha:QD X e f)(hr:QA X es g)(hs:starEach (e::es) X.env=(false,eval e X.env)::starEach es X.env:=by rfl):QA X (e::es) (fCons f g):=⟨pda_cons (ha:=ha.out) (hr:=hr.out) (hs:=hs)⟩
theorem qpba_nil :QBA X [] fNil:=⟨pba_nil ⟩
theorem qpba_cons {es:List Expr}{g:FL}(ha:QB X e f)(hr:QBA X es g)(hs:starEach (e::es) X.env=(false,eval e X.env)::starEach es X.env:=by rfl):QBA X (e::es) (fCons f g):=⟨pba_cons (ha:=ha.out) (hr:=hr.out) (hs:=hs)⟩
theorem qpd_tup {es:List Expr}{g:FL}{x1}(h:QA X es g):QD X (.Tuple es x1 pos) (fTup g):=⟨pd_tup (h:=h.out)⟩
theorem qpf_list {es:List Expr}{g:FL}(h:QA X es g):QF X (.List es pos) (fList g):=⟨pf_list (h:=h.out)⟩
end
section
variable {X:Cx}{e a b:Expr}{st:Stmt}{rest sts:List Stmt}{f:FD}{F G:FS}{pos:Pos}
theorem qpdss_nil :QSs X [] fNext:=⟨pdss_nil ⟩
theorem qpdss_cons (h1:QS X st F)(h2:QSs X rest G):QSs X (st::rest) (fSeq F G):=⟨pdss_cons (h1:=h1.out) (h2:=h2.out)⟩
theorem qpdss_one (h1:QS X st F):QSs X [st] F:=⟨pdss_one (h1:=h1.out)⟩
theorem qpds_ret (h:QB X e f):QS X (.Return (some e) pos) (fRet f):=⟨pds_ret (h:=h.out)⟩
theorem qpds_if {c:Expr}{A B:List Stmt}{fc:FB}(hc:QT X c fc)(ha:QSs X A F)(hb:QSs X B G):QS X (.If c A B pos) (fIf fc F G):=⟨pds_if (hc:=hc.out) (ha:=ha.out) (hb:=hb.out)⟩
theorem qpds_set {i:Nat}{x:Str}{pos':Pos}(hN:X.N.Nodup)(hi:X.N[i]?=some x)(hx:Loc X.env.scope x)(he:QD X e f)(hs:swapsWith e (some (.Name x pos')) pos.line X.env=pure false:=by rfl)(hf:X.fn x=true∨X.env.scope.names.lookup x=some .local:=by first | exact .inl rfl | exact .inr rfl | assumption):QS X (.Assign [.Name x pos'] e pos) (fSet i f):=⟨pds_set (hN:=hN) (hi:=hi) (hx:=hx) (he:=he.out) (hs:=hs) (hf:=hf)⟩
theorem qpds_own {i:Nat}{f:FL}{x:Str}{pos':Pos}(hN:X.N.Nodup)(hi:X.N[i]?=some x)(hx:Loc X.env.scope x)(he:QF X e f)(hs:swapsWith e (some (.Name x pos')) pos.line X.env=pure false:=by rfl)(hf:X.fn x=true∨X.env.scope.names.lookup x=some .local:=by first | exact .inl rfl | exact .inr rfl | assumption):QS X (.Assign [.Name x pos'] e pos) (fOwn i f):=⟨pds_own (hN:=hN) (hi:=hi) (hx:=hx) (he:=he.out) (hs:=hs) (hf:=hf)⟩
theorem qpds_append {i:Nat} {o:Expr} {apos cpos:Pos} (ho:QV X (o) i) (he:QD X e f) (hbase:attributeBase o "append" X.env (eval o X.env)=eval o X.env:=by rfl) (hfew:((backTo cpos (starEach [e] X.env)).all (fun x=>!x.1)&&(backToKw cpos (keywordEach [] X.env)).all (fun x=>x.1.isSome)
  &&decide (([e]:List Expr).length+([]:List Keyword).length+(if ([]:List Keyword).isEmpty then 0 else 1)<30))=true:=by rfl) (hline:(apos.endLine == cpos.line)=true:=by rfl) (hs:starEach [e] X.env=(false,eval e X.env)::starEach [] X.env:=by rfl) (hplain:(backTo cpos (starEach ([]:List Expr) X.env)).any (·.1)=false:=by rfl) (hsw:swapsWith (.Call (.Attribute o "append" apos) [e] [] cpos) none pos.line X.env=pure false:=by rfl):QS X (.Expr (.Call (.Attribute o "append" apos) [e] [] cpos) pos) (fAppend i f):=⟨pds_append (ho:=ho.out) (he:=he.out) (hbase:=hbase) (hfew:=hfew) (hline:=hline) (hs:=hs) (hplain:=hplain) (hsw:=hsw)⟩
theorem qpdg_var {i:Nat}{x:Str}(hN:X.N.Nodup)(hi:X.N[i]?=some x)(hx:Loc X.env.scope x)(hf:X.fn x=true∨X.env.scope.names.lookup x=some .local:=by first | exact .inl rfl | exact .inr rfl | assumption):QG X (.Name x pos) (gVar i):=⟨pdg_var (hN:=hN) (hi:=hi) (hx:=hx) (hf:=hf)⟩
theorem qpds_for {tg iter:Expr}{body:List Stmt}{fi:FL}{g:FG}(hp:PassesOwn (model X.prog X.w) X.A X.env X.xe)(hc:X.calm=true)(hi:QI X tg iter fi)(hg:QG X tg g)(hb:QSs X body F)(hs:∀ x,foldedSetIterable iter X.env x=pure x:=by intro _; rfl):QS X (.For tg iter body [] pos) (fFor fi g F):=⟨pds_for (hp:=hp) (hc:=hc) (hi:=hi.out) (hg:=hg.out) (hb:=hb.out) (hs:=hs)⟩
end
section
variable {X:Cx}{tg l:Expr}{f:FD}{K:PySem.W.Frag}
theorem qpdi_any {y:Str}{py:Pos}(h:QD X l f):QI X (.Name y py) l (fItems f):=⟨pdi_any (h:=h.out)⟩
theorem qpdi_seq (h:QD X l f):QI X tg l (fSeqI f):=⟨pdi_seq (h:=h.out)⟩
theorem qpdi_range1 {a:Expr} {p pos:Pos} (hg:Gl X "range") (hm:X.mg "range"=none) (ha:QD X a f) (hs:starEach [a] X.env=[(false,eval a X.env)]:=by rfl) (hs1:starEach [a] X.env=(false,eval a X.env)::starEach [] X.env:=by rfl):QI X tg (.Call (.Name "range" p) [a] [] pos) (fRange1 f):=⟨pdi_range1 (hg:=hg) (hm:=hm) (ha:=ha.out) (hs:=hs) (hs1:=hs1)⟩
end
section
variable {X:Cx}
theorem qpdif_nil :QIf X [] fTrue:=⟨pdif_nil ⟩
theorem qpdif_one {c:Expr}{f:FB}(h:QT X c f):QIf X [c] f:=⟨pdif_one (h:=h.out)⟩
theorem qpf_comp1 {x:Str}{px pos:Pos}{scope:Scope}{elt iter:Expr}{ifs:List Expr}{fi:FL}{ft:FB}{fe:FD}(hc:X.calm=true)(S:CompScope X [x] scope)(hN:([x]++X.N).Nodup)(hx:scope.names.lookup x=some .local)(hi:QI X (.Name x px) iter fi)(ht:∀ cl s₂ H1 C fp,QIf (cxC X [x] scope cl s₂ H1 C fp) ifs ft)(he:∀ cl s₂ H1 C fp,QD (cxC X [x] scope cl s₂ H1 C fp) elt fe)(hs:∀ x,foldedSetIterable iter X.env x=pure x:=by intro _; rfl):QF X (.ListComp elt [⟨.Name x px,iter,ifs,0⟩] scope pos) (fComp g1 fi ft fe):=⟨pf_comp1 (hc:=hc) (S:=S) (hN:=hN) (hx:=hx) (hi:=hi.out) (ht:=(fun x0 x1 x2 x3 x4=>(ht x0 x1 x2 x3 x4).out)) (he:=(fun x0 x1 x2 x3 x4=>(he x0 x1 x2 x3 x4).out)) (hs:=hs)⟩
theorem qpds_comp1T {x y:Str}{px py pos spos:Pos}{scope:Scope}{elt iter:Expr}{ifs:List Expr}{fi:FL}{ft:FB}{fe:FD}{i:Nat}(hN0:X.N.Nodup)(hi':X.N[i]?=some y)(hy:Loc X.env.scope y)(hc:X.calm=true)(S:CompScope X [x] scope)(hN:([x]++X.N).Nodup)(hx:scope.names.lookup x=some .local)(hi:QI X (.Name x px) iter fi)(ht:∀ cl s₂ H1 C fp,QIf (cxC X [x] scope cl s₂ H1 C fp) ifs ft)(he:∀ cl s₂ H1 C fp,QD (cxC X [x] scope cl s₂ H1 C fp) elt fe)(hsw:swapsWith (.ListComp elt [⟨.Name x px,iter,ifs,0⟩] scope pos) (some (.Name y py)) spos.line X.env=pure true:=by rfl)(hf':X.fn y=true∨X.env.scope.names.lookup y=some .local:=by first | exact .inl rfl | exact .inr rfl | assumption)(hs:∀ x,foldedSetIterable iter X.env x=pure x:=by intro _; rfl):QS X (.Assign [.Name y py] (.ListComp elt [⟨.Name x px,iter,ifs,0⟩] scope pos) spos) (fSet i (fLst (fComp g1 fi ft fe))):=⟨pds_comp1T (hN0:=hN0) (hi':=hi') (hy:=hy) (hc:=hc) (S:=S) (hN:=hN) (hx:=hx) (hi:=hi.out) (ht:=(fun x0 x1 x2 x3 x4=>(ht x0 x1 x2 x3 x4).out)) (he:=(fun x0 x1 x2 x3 x4=>(he x0 x1 x2 x3 x4).out)) (hsw:=hsw) (hf':=hf') (hs:=hs)⟩
end
section
variable {X:Cx}{x:Str}{p pos:Pos}{e:Expr}{es:List Expr}{g:FL}{φ:List Th→Option Th}{k:Nat}
theorem qpd_call (c:Callee X.prog X.w X.K X.mg X.base k x φ) (hr:Room k X.A) (hg:Gl X x) (ha:QA X (e::es) g) (hdb:(x == ("__debug__":Str))=false:=by decide) (he:starEach (e::es) X.env=(false,eval e X.env)::starEach es X.env:=by rfl) (hpl:(backTo pos (starEach es X.env)).any (·.1)=false:=by rfl):QD X (.Call (.Name x p) (e::es) [] pos) (fCall φ g):=⟨pd_call (c:=c) (hr:=hr) (hg:=hg) (ha:=ha.out) (hdb:=hdb) (he:=he) (hpl:=hpl)⟩
end
section
variable {X:Cx}{K:PySem.W.Frag}{a b c e:Expr}{fa fb fc f:FD}{pos:Pos}
theorem qpd_len {p:Pos} {es:List Expr} {fs:FL} (hg:Gl X "len") (hm:X.mg "len"=none) (ha:QBA X (e::es) fs) (he:starEach (e::es) X.env=(false,eval e X.env)::starEach es X.env:=by rfl) (hpl:(backTo pos (starEach es X.env)).any (·.1)=false:=by rfl):QD X (.Call (.Name "len" p) (e::es) [] pos) (fCB oLen fs):=⟨pd_len (hg:=hg) (hm:=hm) (ha:=ha.out) (he:=he) (hpl:=hpl)⟩
end
section
variable {X:Cx}{K:PySem.W.Frag}{a b c e:Expr}{fa fb fc f:FD}{pos:Pos}{k:Nat}
theorem qpd_eq (hr:Room k X.A)(ha:QB X a fa)(hb:QB X b fb):QD X (.Compare a [.Eq] [b] pos) (f2 oEq fa fb):=⟨pd_eq (hr:=hr) (ha:=ha.out) (hb:=hb.out)⟩
theorem qpdt_eq (hr:Room k X.A)(ha:QB X a fa)(hb:QB X b fb):QT X (.Compare a [.Eq] [b] pos) (fTest (f2 oEq fa fb)):=⟨pdt_eq (hr:=hr) (ha:=ha.out) (hb:=hb.out)⟩
theorem qpdt_ne (hr:Room k X.A)(ha:QB X a fa)(hb:QB X b fb):QT X (.Compare a [.NotEq] [b] pos) (fTest (f2 oNe fa fb)):=⟨pdt_ne (hr:=hr) (ha:=ha.out) (hb:=hb.out)⟩
theorem qpdt_notIn (hr:Room k X.A)(ha:QB X a fa)(hb:QB X b fb)(hm:behindInMarks .NotIn b=false:=by with_unfolding_all rfl):QT X (.Compare a [.NotIn] [b] pos) (fTest (f2 (oIn true) fa fb)):=⟨pdt_notIn (hr:=hr) (ha:=ha.out) (hb:=hb.out) (hm:=hm)⟩
theorem qpd_lt (hr:Room k X.A)(ha:QB X a fa)(hb:QB X b fb):QD X (.Compare a [.Lt] [b] pos) (f2 oLt fa fb):=⟨pd_lt (hr:=hr) (ha:=ha.out) (hb:=hb.out)⟩
theorem qpdt_lt (hr:Room k X.A)(ha:QB X a fa)(hb:QB X b fb):QT X (.Compare a [.Lt] [b] pos) (fTest (f2 oLt fa fb)):=⟨pdt_lt (hr:=hr) (ha:=ha.out) (hb:=hb.out)⟩
theorem qpdt_gt (ha:QB X a fa)(hb:QB X b fb):QT X (.Compare a [.Gt] [b] pos) (fTest (f2 oGt fa fb)):=⟨pdt_gt (ha:=ha.out) (hb:=hb.out)⟩
theorem qpdt_ge (ha:QB X a fa)(hb:QB X b fb):QT X (.Compare a [.GtE] [b] pos) (fTest (f2 oGe fa fb)):=⟨pdt_ge (ha:=ha.out) (hb:=hb.out)⟩
theorem qpd_isN (ha:QB X a fa)(hb:QB X b fb):QD X (.Compare a [.Is] [b] pos) (f2 (oIsN false) fa fb):=⟨pd_isN (ha:=ha.out) (hb:=hb.out)⟩
theorem qpdt_isN (ha:QB X a fa)(hb:QB X b fb):QT X (.Compare a [.Is] [b] pos) (fTest (f2 (oIsN false) fa fb)):=⟨pdt_isN (ha:=ha.out) (hb:=hb.out)⟩
theorem qpdt_notN (ha:QB X a fa)(hb:QB X b fb):QT X (.Compare a [.IsNot] [b] pos) (fTest (f2 (oIsN true) fa fb)):=⟨pdt_notN (ha:=ha.out) (hb:=hb.out)⟩
end
section
variable {X:Cx}{e a b:Expr}{te tl th:TE}{pos p2:Pos}
theorem qpdo_none :QO X none fNoPart:=⟨pdo_none ⟩
theorem qpdo_some {f:FD}(h:QD X e f):QO X (some e) (fPart f):=⟨pdo_some (h:=h.out)⟩
theorem qpd_slice {f:FD}{fl fh:FO}{lo hi:Option Expr}(h:QB X e f)(hl:QO X lo fl)(hh:QO X hi fh):QD X (.Subscript e (.Slice lo hi none p2) pos) (fSl f fl fh):=⟨pd_slice (h:=h.out) (hl:=hl.out) (hh:=hh.out)⟩
theorem qpf_slice {f:FD}{fl fh:FO}{lo hi:Option Expr}(h:QB X e f)(hl:QO X lo fl)(hh:QO X hi fh):QF X (.Subscript e (.Slice lo hi none p2) pos) (fSlF f fl fh):=⟨pf_slice (h:=h.out) (hl:=hl.out) (hh:=hh.out)⟩
theorem qpd_ix {fa fb:FD}(ha:QB X a fa)(hb:QB X b fb)(hs:PlainIx b):QD X (.Subscript a b pos) (f2 oIx fa fb):=⟨pd_ix (ha:=ha.out) (hb:=hb.out) (hs:=hs)⟩
end
section
variable {X:Cx}{K:PySem.W.Frag}{a b c e:Expr}{fa fb fc f:FD}{pos:Pos}{k:Nat}
theorem qpd_plus (ha:QB X a fa)(hb:QB X b fb):QD X (.BinOp a .Add b pos) (f2 oPlus fa fb):=⟨pd_plus (ha:=ha.out) (hb:=hb.out)⟩
theorem qpd_times (ha:QB X a fa)(hb:QB X b fb):QD X (.BinOp a .Mult b pos) (f2 oTimes fa fb):=⟨pd_times (ha:=ha.out) (hb:=hb.out)⟩
end
section
variable {X:Cx}{K:PySem.W.Frag}{a b c e:Expr}{fa fb fc f:FD}{pos:Pos}
theorem qpd_sub (ha:QB X a fa)(hb:QB X b fb):QD X (.BinOp a .Sub b pos) (f2 oSub fa fb):=⟨pd_sub (ha:=ha.out) (hb:=hb.out)⟩
theorem qpd_fdiv (ha:QB X a fa)(hb:QB X b fb):QD X (.BinOp a .FloorDiv b pos) (f2 oDiv fa fb):=⟨pd_fdiv (ha:=ha.out) (hb:=hb.out)⟩
theorem qpd_mod (ha:QB X a fa)(hb:QB X b fb):QD X (.BinOp a .Mod b pos) (f2 oMod fa fb):=⟨pd_mod (ha:=ha.out) (hb:=hb.out)⟩
end
section
variable {X:Cx}{K:PySem.W.Frag}{a b c e:Expr}{fa fb fc f:FD}{pos:Pos}{k:Nat}
theorem qpd_tuple {p:Pos} {es:List Expr} {fs:FL} (hg:Gl X "tuple") (hm:X.mg "tuple"=none) (ha:QBA X (e::es) fs) (he:starEach (e::es) X.env=(false,eval e X.env)::starEach es X.env:=by rfl) (hpl:(backTo pos (starEach es X.env)).any (·.1)=false:=by rfl):QD X (.Call (.Name "tuple" p) (e::es) [] pos) (fCB oTuple fs):=⟨pd_tuple (hg:=hg) (hm:=hm) (ha:=ha.out) (he:=he) (hpl:=hpl)⟩
end
section
variable {X:Cx}{K:PySem.W.Frag}
theorem qpdi_enum {es:List Expr} {k1:Nat} {tp:Pos} {a:Expr} {f:FD} {p pos:Pos} (hg:Gl X "enumerate") (hm:X.mg "enumerate"=none) (ha:QD X a f) (hs:starEach [a] X.env=[(false,eval a X.env)]:=by rfl) (hs1:starEach [a] X.env=(false,eval a X.env)::starEach [] X.env:=by rfl):QI X (.Tuple es k1 tp) (.Call (.Name "enumerate" p) [a] [] pos) (fEnum f):=⟨pdi_enum (hg:=hg) (hm:=hm) (ha:=ha.out) (hs:=hs) (hs1:=hs1)⟩
end
section
variable {X:Cx}{K:PySem.W.Frag}{o a b c e:Expr}{fo fa fb fc f:FD}{pos:Pos}{k:Nat}
theorem qpd_find {apos cpos:Pos} (ho:QB X o fo) (ha:QB X e fa) (hbase:attributeBase o "find" X.env (eval o X.env)=eval o X.env:=by rfl) (hfew:((backTo cpos (starEach (e::[]) X.env)).all (fun x=>!x.1)&&(backToKw cpos (keywordEach [] X.env)).all (fun x=>x.1.isSome)
  &&decide ((e::[]).length+([]:List Keyword).length+(if ([]:List Keyword).isEmpty then 0 else 1)<30))=true:=by rfl) (hline:(apos.endLine == cpos.line)=true:=by rfl) (hs:starEach (e::[]) X.env=(false,eval e X.env)::starEach [] X.env:=by rfl) (hplain:(backTo cpos (starEach [] X.env)).any (·.1)=false:=by rfl):QD X (.Call (.Attribute o "find" apos) [e] [] cpos) (fM1 (fun z y=>some (.int (Txt.find z y))) fo fa):=⟨pd_find (ho:=ho.out) (ha:=ha.out) (hbase:=hbase) (hfew:=hfew) (hline:=hline) (hs:=hs) (hplain:=hplain)⟩
theorem qpd_starts {apos cpos:Pos} (ho:QB X o fo) (ha:QB X e fa) (hbase:attributeBase o "startswith" X.env (eval o X.env)=eval o X.env:=by rfl) (hfew:((backTo cpos (starEach (e::[]) X.env)).all (fun x=>!x.1)&&(backToKw cpos (keywordEach [] X.env)).all (fun x=>x.1.isSome)
  &&decide ((e::[]).length+([]:List Keyword).length+(if ([]:List Keyword).isEmpty then 0 else 1)<30))=true:=by rfl) (hline:(apos.endLine == cpos.line)=true:=by rfl) (hs:starEach (e::[]) X.env=(false,eval e X.env)::starEach [] X.env:=by rfl) (hplain:(backTo cpos (starEach [] X.env)).any (·.1)=false:=by rfl):QD X (.Call (.Attribute o "startswith" apos) [e] [] cpos) (fM1 (fun z y=>some (.bl (Txt.startswith z y))) fo fa):=⟨pd_starts (ho:=ho.out) (ha:=ha.out) (hbase:=hbase) (hfew:=hfew) (hline:=hline) (hs:=hs) (hplain:=hplain)⟩
end
section
variable {X:Cx}{a b c e:Expr}{fa fb fc f:FD}{pos:Pos}{k:Nat}
theorem qpdg_two {i j:Nat}{x y:Str}{px py:Pos}{k:Nat}(hc:X.calm=true)(hN:X.N.Nodup)(hi:X.N[i]?=some x)(hj:X.N[j]?=some y)(hx:Loc X.env.scope x)(hy:Loc X.env.scope y)(hf:X.fn x=true∨X.env.scope.names.lookup x=some .local:=by first | exact .inl rfl | exact .inr rfl | assumption)(hf2:X.fn y=true∨X.env.scope.names.lookup y=some .local:=by first | exact .inl rfl | exact .inr rfl | assumption):QG X (.Tuple [.Name x px,.Name y py] k pos) (gPair i j):=⟨pdg_two (hc:=hc) (hN:=hN) (hi:=hi) (hj:=hj) (hx:=hx) (hy:=hy) (hf:=hf) (hf2:=hf2)⟩
end
section
variable {X:Cx}{a b c e:Expr}{fa fb fc f:FD}{F G:FS}{pos:Pos}{k:Nat}
theorem qpds_while {body:List Stmt}{fc:FB}(hp:PassesOwn (model X.prog X.w) X.A X.env X.xe)(hc:QT X c fc)(hb:QSs X body F):QS X (.While c body [] pos) (fWhile fc F):=⟨pds_while (hp:=hp) (hc:=hc.out) (hb:=hb.out)⟩
theorem qpds_asg {tg:Expr}{g:FG}(he:QD X e f)(hg:QG X tg g)(hs:swapsWithSole [tg] e pos.line X.env=pure false:=by rfl)(hw:swappedStores [tg] e X.env=pure none:=by rfl)(h1:(assignEach [tg] X.env).map (·.2)=[assign tg X.env]:=by rfl):QS X (.Assign [tg] e pos) (fAsg f g):=⟨pds_asg (he:=he.out) (hg:=hg.out) (hs:=hs) (hw:=hw) (h1:=h1)⟩
theorem qpf_comp2 {x y:Str}{px py pt pos:Pos}{k1:Nat}{scope:Scope}{elt iter:Expr}{ifs:List Expr}{fi:FL}{ft:FB}{fe:FD}(hc:X.calm=true)(S:CompScope X [x,y] scope)(hN:([x,y]++X.N).Nodup)(hx:scope.names.lookup x=some .local)(hy:scope.names.lookup y=some .local)(hi:QI X (.Tuple [.Name x px,.Name y py] k1 pt) iter fi)(ht:∀ cl s₂ H1 C fp,QIf (cxC X [x,y] scope cl s₂ H1 C fp) ifs ft)(he:∀ cl s₂ H1 C fp,QD (cxC X [x,y] scope cl s₂ H1 C fp) elt fe)(hs:∀ x,foldedSetIterable iter X.env x=pure x:=by intro _; rfl):QF X (.ListComp elt [⟨.Tuple [.Name x px,.Name y py] k1 pt,iter,ifs,0⟩] scope pos) (fComp g2 fi ft fe):=⟨pf_comp2 (hc:=hc) (S:=S) (hN:=hN) (hx:=hx) (hy:=hy) (hi:=hi.out) (ht:=(fun x0 x1 x2 x3 x4=>(ht x0 x1 x2 x3 x4).out)) (he:=(fun x0 x1 x2 x3 x4=>(he x0 x1 x2 x3 x4).out)) (hs:=hs)⟩
theorem qpds_comp2T {x y z:Str}{px py pt pz pos spos:Pos}{k1:Nat}{scope:Scope}{elt iter:Expr}{ifs:List Expr}{fi:FL}{ft:FB}{fe:FD}{i:Nat}(hN0:X.N.Nodup)(hi':X.N[i]?=some z)(hz:Loc X.env.scope z)(hc:X.calm=true)(S:CompScope X [x,y] scope)(hN:([x,y]++X.N).Nodup)(hx:scope.names.lookup x=some .local)(hy:scope.names.lookup y=some .local)(hi:QI X (.Tuple [.Name x px,.Name y py] k1 pt) iter fi)(ht:∀ cl s₂ H1 C fp,QIf (cxC X [x,y] scope cl s₂ H1 C fp) ifs ft)(he:∀ cl s₂ H1 C fp,QD (cxC X [x,y] scope cl s₂ H1 C fp) elt fe)(hsw:swapsWith (.ListComp elt [⟨.Tuple [.Name x px,.Name y py] k1 pt,iter,ifs,0⟩] scope pos) (some (.Name z pz)) spos.line X.env=pure true:=by rfl)(hf':X.fn z=true∨X.env.scope.names.lookup z=some .local:=by first | exact .inl rfl | exact .inr rfl | assumption)(hs:∀ x,foldedSetIterable iter X.env x=pure x:=by intro _; rfl):QS X (.Assign [.Name z pz] (.ListComp elt [⟨.Tuple [.Name x px,.Name y py] k1 pt,iter,ifs,0⟩] scope pos) spos) (fSet i (fLst (fComp g2 fi ft fe))):=⟨pds_comp2T (hN0:=hN0) (hi':=hi') (hz:=hz) (hc:=hc) (S:=S) (hN:=hN) (hx:=hx) (hy:=hy) (hi:=hi.out) (ht:=(fun x0 x1 x2 x3 x4=>(ht x0 x1 x2 x3 x4).out)) (he:=(fun x0 x1 x2 x3 x4=>(he x0 x1 x2 x3 x4).out)) (hsw:=hsw) (hf':=hf') (hs:=hs)⟩
end
section
variable {X:Cx}{K:PySem.W.Frag}{e:Expr}{es:List Expr}{fs:FL}{p pos:Pos}{pins:List (Addr×Obj)}{σ:St}{H:Hp}{s:Shared}
theorem qpf_sort2 (hg:Gl X "sorted") (hm:X.mg "sorted"=none) (ha:QBA X (e::es) fs) (he:starEach (e::es) X.env=(false,eval e X.env)::starEach es X.env:=by rfl) (hpl:(backTo pos (starEach es X.env)).any (·.1)=false:=by rfl):QF X (.Call (.Name "sorted" p) (e::es) [] pos) (fSort2 fs):=⟨pf_sort2 (hg:=hg) (hm:=hm) (ha:=ha.out) (he:=he) (hpl:=hpl)⟩
theorem qpf_sortSet {p2 pos2:Pos} (hc:X.calm=true) (hg:Gl X "sorted") (hm:X.mg "sorted"=none) (hg2:Gl X "set") (hm2:X.mg "set"=none) (ha:QBA X (e::es) fs) (he:starEach (e::es) X.env=(false,eval e X.env)::starEach es X.env:=by rfl) (hpl:(backTo pos2 (starEach es X.env)).any (·.1)=false:=by rfl) (he2:starEach [.Call (.Name "set" p2) (e::es) [] pos2] X.env=(false,eval (.Call (.Name "set" p2) (e::es) [] pos2) X.env)::starEach [] X.env:=by rfl) (hpl2:(backTo pos (starEach ([]:List Expr) X.env)).any (·.1)=false:=by rfl):QF X (.Call (.Name "sorted" p) [.Call (.Name "set" p2) (e::es) [] pos2] [] pos) (fSortSet fs):=⟨pf_sortSet (hc:=hc) (hg:=hg) (hm:=hm) (hg2:=hg2) (hm2:=hm2) (ha:=ha.out) (he:=he) (hpl:=hpl) (he2:=he2) (hpl2:=hpl2)⟩
end
section
variable {X:Cx}{K:PySem.W.Frag}{o a b c e e2:Expr}{fo fa fb fc f:FD}{pos:Pos}{k:Nat}
theorem qpd_find3 {apos cpos:Pos} (ho:QB X o fo) (ha:QB X e fa) (hb:QB X e2 fb) (hbase:attributeBase o "find" X.env (eval o X.env)=eval o X.env:=by rfl) (hfew:((backTo cpos (starEach [e,e2] X.env)).all (fun x=>!x.1)&&(backToKw cpos (keywordEach [] X.env)).all (fun x=>x.1.isSome)&&decide ([e,e2].length+([]:List Keyword).length+(if ([]:List Keyword).isEmpty then 0 else 1)<30))=true:=by rfl) (hline:(apos.endLine == cpos.line)=true:=by rfl) (hs:starEach [e,e2] X.env=(false,eval e X.env)::starEach [e2] X.env:=by rfl) (hs2:starEach [e2] X.env=(false,eval e2 X.env)::starEach [] X.env:=by rfl) (hplain:(backTo cpos (starEach [e2] X.env)).any (·.1)=false:=by rfl):QD X (.Call (.Attribute o "find" apos) [e,e2] [] cpos) (fM2 (fun z y i=>some (.int (Txt.find3 z y i))) fo fa fb):=⟨pd_find3 (ho:=ho.out) (ha:=ha.out) (hb:=hb.out) (hbase:=hbase) (hfew:=hfew) (hline:=hline) (hs:=hs) (hs2:=hs2) (hplain:=hplain)⟩
theorem qpds_extend {i:Nat} {apos cpos:Pos} (ho:QV X (o) i) (he:QB X e f) (hbase:attributeBase o "extend" X.env (eval o X.env)=eval o X.env:=by rfl) (hfew:((backTo cpos (starEach [e] X.env)).all (fun x=>!x.1)&&(backToKw cpos (keywordEach [] X.env)).all (fun x=>x.1.isSome)
  &&decide (([e]:List Expr).length+([]:List Keyword).length+(if ([]:List Keyword).isEmpty then 0 else 1)<30))=true:=by rfl) (hline:(apos.endLine == cpos.line)=true:=by rfl) (hs:starEach [e] X.env=(false,eval e X.env)::starEach [] X.env:=by rfl) (hplain:(backTo cpos (starEach ([]:List Expr) X.env)).any (·.1)=false:=by rfl) (hsw:swapsWith (.Call (.Attribute o "extend" apos) [e] [] cpos) none pos.line X.env=pure false:=by rfl):QS X (.Expr (.Call (.Attribute o "extend" apos) [e] [] cpos) pos) (fExtend i f):=⟨pds_extend (ho:=ho.out) (he:=he.out) (hbase:=hbase) (hfew:=hfew) (hline:=hline) (hs:=hs) (hplain:=hplain) (hsw:=hsw)⟩
end
section
variable {X:Cx}{K:PySem.W.Frag}{o a b c e value:Expr}{f fk fw:FD}{pos pos':Pos}{k i:Nat}{x:Str}
theorem qpds_dnew (hN:X.N.Nodup)(hi:X.N[i]?=some x)(hx:Loc X.env.scope x)(hf:X.fn x=true∨X.env.scope.names.lookup x=some .local:=by first | exact .inl rfl | exact .inr rfl | assumption){px:Pos}(hs:swapsWith (.Dict [] [] pos') (some (.Name x px)) pos.line X.env=pure false:=by rfl):QS X (.Assign [.Name x px] (.Dict [] [] pos') pos) (fDNew i):=⟨pds_dnew (hN:=hN) (hi:=hi) (hx:=hx) (hf:=hf) (hs:=hs)⟩
theorem qpds_dput (hr:Room k X.A)(ho:QV X (o) i)(hi:QB X e fk)(hv:QD X value fw)(hs:swapsWith value (some (.Subscript o e pos')) pos.line X.env=pure false:=by rfl):QS X (.Assign [.Subscript o e pos'] value pos) (fDPut i fk fw):=⟨pds_dput (hr:=hr) (ho:=ho.out) (hi:=hi.out) (hv:=hv.out) (hs:=hs)⟩
end
section
variable {X:Cx}{K:PySem.W.Frag}{e value:Expr}{fs:FL}{fd:FD}{p pos kp:Pos}{k:Nat}
theorem qpd_minD (hr:Room k X.A) (hc:X.calm=true) (hg:Gl X "min") (hm:X.mg "min"=none) (ha:QBA X [e] fs) (hv:QD X value fd) (he:backTo pos (starEach [e] X.env)=(false,eval e X.env)::backTo pos (starEach [] X.env):=by rfl) (hplain:(backTo pos (starEach [e] X.env)).any (·.1)=false:=by rfl) (hall:(backToKw pos (keywordEach [⟨some (Str.ofString "default"),value,kp⟩] X.env)).all (·.1.isSome)=true:=by rfl) (hkw:(backToKw pos (keywordEach [⟨some (Str.ofString "default"),value,kp⟩] X.env)).any (·.1.isNone)=false:=by rfl) (hz:∀ v:Value,((backToKw pos (keywordEach [⟨some (Str.ofString "default"),value,kp⟩] X.env)).filterMap (·.1)).zip [v]=[(Str.ofString "default",v)]:=by intro _; rfl):QD X (.Call (.Name "min" p) [e] [⟨some (Str.ofString "default"),value,kp⟩] pos) (fMinD fs fd):=⟨pd_minD (hr:=hr) (hc:=hc) (hg:=hg) (hm:=hm) (ha:=ha.out) (hv:=hv.out) (he:=he) (hplain:=hplain) (hall:=hall) (hkw:=hkw) (hz:=hz)⟩
end
section
variable {X:Cx}{tg a b:Expr}{fa fb:FD}{K:PySem.W.Frag}{p pos:Pos}
theorem qpdi_range2 (hg:Gl X "range") (hm:X.mg "range"=none) (ha:QD X a fa) (hb:QD X b fb) (hs:starEach [a,b] X.env=[(false,eval a X.env),(false,eval b X.env)]:=by rfl) (hs2:starEach [b] X.env=[(false,eval b X.env)]:=by rfl) (hs1:starEach [a,b] X.env=(false,eval a X.env)::starEach [b] X.env:=by rfl) (hs3:starEach [b] X.env=(false,eval b X.env)::starEach [] X.env:=by rfl):QI X tg (.Call (.Name "range" p) [a,b] [] pos) (fRange2 fa fb):=⟨pdi_range2 (hg:=hg) (hm:=hm) (ha:=ha.out) (hb:=hb.out) (hs:=hs) (hs2:=hs2) (hs1:=hs1) (hs3:=hs3)⟩
end
section
theorem qpf_sortD {X:Cx} {o:Expr} {i:Nat} {p pos:Pos} (hc:X.calm=true) (hg:Gl X "sorted") (hm:X.mg "sorted"=none) (ho:QV X (o) i) (he:starEach [o] X.env=(false,eval o X.env)::starEach [] X.env:=by rfl) (hpl:(backTo pos (starEach ([]:List Expr) X.env)).any (·.1)=false:=by rfl):QF X (.Call (.Name "sorted" p) [o] [] pos) (fSortD i):=⟨pf_sortD (hc:=hc) (hg:=hg) (hm:=hm) (ho:=ho.out) (he:=he) (hpl:=hpl)⟩
end
section
variable {X:Cx}{K:PySem.W.Frag}{e:Expr}{fs:FL}{p pos kp kq:Pos}{k:Nat}{x:Str}{φ:List Th→Option Th}
theorem qpf_sortK (c:Callee X.prog X.w X.K X.mg X.base k x φ) (hr:Room (k+2) X.A) (hx:Gl X x) (hg:Gl X "sorted") (hm:X.mg "sorted"=none) (ha:QBA X [e] fs) (hdb:(x == ("__debug__":Str))=false:=by decide) (he:backTo pos (starEach [e] X.env)=(false,eval e X.env)::backTo pos (starEach [] X.env):=by rfl) (hplain:(backTo pos (starEach [e] X.env)).any (·.1)=false:=by rfl) (hall:(backToKw pos (keywordEach [⟨some (Str.ofString "key"),.Name x kq,kp⟩] X.env)).all (·.1.isSome)=true:=by rfl) (hkw:(backToKw pos (keywordEach [⟨some (Str.ofString "key"),.Name x kq,kp⟩] X.env)).any (·.1.isNone)=false:=by rfl) (hz:∀ v:Value,((backToKw pos (keywordEach [⟨some (Str.ofString "key"),.Name x kq,kp⟩] X.env)).filterMap (·.1)).zip [v]=[(Str.ofString "key",v)]:=by intro _; rfl):QF X (.Call (.Name "sorted" p) [e] [⟨some (Str.ofString "key"),.Name x kq,kp⟩] pos) (fSortK φ fs):=⟨pf_sortK (c:=c) (hr:=hr) (hx:=hx) (hg:=hg) (hm:=hm) (ha:=ha.out) (hdb:=hdb) (he:=he) (hplain:=hplain) (hall:=hall) (hkw:=hkw) (hz:=hz)⟩
end
section
variable {X:Cx}
theorem qpd_lit {e:Expr}{T:Th}(h:Lit e T):QD X e (fC T):=⟨pd_lit h⟩
theorem qpf_lit {es:List Expr}{ts:List Th}{p:Pos}(h:LitL es ts)(z:ts.length≤1000000):QF X (.List es p) (fCL ts):=⟨pf_lit h z⟩
theorem qv (i:Nat) {x:Str} {pos:Pos} (hN:X.N[i]?=some x:=by rfl) (hv:Vis X.env.scope x:=by first | exact Or.inl rfl | exact Or.inr (Or.inl rfl) | exact Or.inr (Or.inr rfl)) (hd:(x == ("__debug__":Str))=false:=by decide)
  (hcd:(x == ("__classdict__":Str))=false:=by decide):QV X (.Name x pos) i:=⟨pe_var hN hv hd hcd⟩
end
section
variable {P:Program}{w:World}{K:PySem.W.Frag}{mg:Str→Option Value}{base:Heap}
theorem Fun.okQ {x qual:Str}{st:Stmt}{f:Addr}{fd:FuncData}{N ps:List Str}{k:Nat}{n m:Nat}{body:FS}(F:Fun K x qual st f fd)(S:FnScope N ps (defScope st))(hps:ps.length=n)(hN:N.length=m)
  (hb:∀ (cdv:Value) (A:Around) (outer:List Env) (s:Shared) (H:Hp) (E:XK),Room k (A.deeper (envOfC qual (defScope st) s.heap.objs.size f cdv))→QSs (cxOf CX0 P w K mg base N qual (defScope st) f cdv A outer s H E).nox (defBody st) body) :
  FnOk P w K mg base CX0 (k+1) f fd ps (spF K (runD n m body)) :=
 Fun.okD F S (fun cdv A outer s H E hr=>(hb cdv A outer s H E hr).out) (fun Ts T e=>by subst hps hN; exact runD_some e)
end
end L2
namespace L2
open PySem PySem.Spec PyProof.Rows PySem.Builtin.Str PySem.StrLaws
abbrev W:=List Nat
def sL (l:W):Str:=⟨l.toArray⟩
def tS (l:W):Th:=.str (sL l)
theorem sL_cps (l:W):(sL l).cps.toList=l:=rfl
theorem sL_len (l:W):(sL l).length=l.length:=rfl
theorem sL_of (x:Str):sL x.cps.toList=x:=by cases x; simp[sL]
theorem sL_inj {a b:W}(h:sL a=sL b):a=b:=by
 have:=congrArg (fun s:Str=>s.cps.toList) h
 exact this
theorem sL_app (a b:W):sL a++sL b=sL (a++b):=by
 show (⟨a.toArray++b.toArray⟩:Str)=_
 simp[sL]
def stands (l w:W)(i:Nat):Bool:=l.isPrefixOf (w.drop i)
theorem stands_iff {l w:W}{i:Nat}:stands l w i=true↔l <+: w.drop i:=List.isPrefixOf_iff_prefix
theorem stands_le {l w:W}{i:Nat}(hl:l≠[])(h:stands l w i=true):i+l.length≤w.length:=by
 have:=(stands_iff.mp h).length_le
 rw[List.length_drop] at this
 have:0<l.length:=List.length_pos_iff.mpr hl
 lia
theorem stands_cut {l w:W}{i:Nat}(h:stands l w i=true)(hi:i≤w.length):w=w.take i++l++w.drop (i+l.length):=by
 obtain⟨t,ht⟩:=stands_iff.mp h
 have e:w.drop (i+l.length)=t:=by
  rw[← List.drop_drop,← ht,List.drop_left]
 rw[e,List.append_assoc,ht,List.take_append_drop]
theorem sub_at {l w:W}{i:Nat}(h:i+l.length≤w.length):subAt (sL w) (sL l) i=stands l w i:=by
 unfold subAt stands
 have e:((sL w).cps.extract i (i+(sL l).length))=((w.drop i).take l.length).toArray:=by
  apply Array.toList_inj.mp
  show ((w.toArray).extract i (i+l.length)).toList=_
  rw[Array.toList_extract,List.extract_eq_take_drop]
  simp
 rw[e]
 show (((w.drop i).take l.length).toArray == l.toArray)=_
 have e2:(((w.drop i).take l.length).toArray == l.toArray)=((w.drop i).take l.length == l):=by
  rw[Bool.eq_iff_iff]
  simp
 rw[e2,Bool.eq_iff_iff,beq_iff_eq,List.isPrefixOf_iff_prefix,List.prefix_iff_eq_take]
 exact eq_comm
theorem starts_eq (w l:W):Txt.startswith (sL w) (sL l)=l.isPrefixOf w:=by
 unfold Txt.startswith
 by_cases h:l.length≤w.length
 ·have h0:0+l.length≤w.length:=by lia
  rw[sub_at h0]
  have:decide (0+(sL l).length≤(sL w).length)=true:=decide_eq_true h0
  rw[this]
  simp[stands]
 ·have:decide (0+(sL l).length≤(sL w).length)=false:=decide_eq_false (by show ¬ (0+l.length≤w.length); lia)
  rw[this,Bool.false_and]
  cases h2:l.isPrefixOf w with
  |false=>rfl
  |true=>exact absurd (List.isPrefixOf_iff_prefix.mp h2).length_le (by lia)
def firstAt (l w:W)(lo:Nat):Option Nat:=(List.range' lo (w.length+1-lo)).find? (stands l w)
theorem occ_go {w l:W}(hl:l≠[]):∀ (is:List Nat) (lo:Nat),(∀ i∈is,lo≤i) →
  (forIn (m:=Id) is ((#[]:Array Nat),lo) (occBody (sL w) (sL l) w.length 1)).run.fst.toList=(is.find? (stands l w)).toList:=by
 intro is
 have full:∀ (is:List Nat) (k f:Nat),(forIn (m:=Id) is ((#[k]:Array Nat),f) (occBody (sL w) (sL l) w.length 1)).run.fst.toList=[k]:=by
  intro is
  induction is with
  |nil=>intro k f; rfl
  |cons i is ih =>
   intro k f
   rw[List.forIn_cons]
   have e:occBody (sL w) (sL l) w.length 1 i ((#[k]:Array Nat),f)=pure (ForInStep.yield (#[k],f)):=by
    unfold occBody
    simp
   rw[e]
   exact ih k f
 induction is with
 |nil=>intro lo _; rfl
 |cons i is ih =>
  intro lo hlo
  rw[List.forIn_cons,List.find?_cons]
  have hi:=hlo i List.mem_cons_self
  cases hs:stands l w i with
  |true =>
   have hle:=stands_le hl hs
   have hle':i+(sL l).length≤w.length:=hle
   have e:occBody (sL w) (sL l) w.length 1 i ((#[]:Array Nat),lo)=pure (ForInStep.yield (#[i],i+(sL l).length)):=by
    unfold occBody
    rw[sub_at hle,hs]
    simp[hi,hle']
   rw[e]
   exact full is i _
  |false =>
   have e:occBody (sL w) (sL l) w.length 1 i ((#[]:Array Nat),lo)=pure (ForInStep.yield (#[],lo)):=by
    unfold occBody
    by_cases h:i+(sL l).length≤w.length
    ·rw[sub_at (l:=l) h,hs]
     simp
    ·simp[h]
   rw[e]
   exact ih lo fun j hj=>hlo j (List.mem_cons_of_mem _ hj)
theorem occ_one {w l:W}(hl:l≠[])(lo:Nat):occurrences (sL w) (sL l) lo (sL w).length 1=(firstAt l w lo).toList:=by
 rw[occ_eq]
 refine occ_go hl _ lo fun i hi=>?_
 exact (List.mem_range'_1.mp hi).1
def intO:Option Nat→Int
 |some i=>(i:Int)
 |none=>-1
theorem find_eq {w l:W}(hl:l≠[]):Txt.find (sL w) (sL l)=intO (firstAt l w 0):=by
 unfold Txt.find
 rw[occ_one hl 0]
 cases firstAt l w 0 <;> rfl
theorem find3_eq {w l:W}(hl:l≠[])(i:Nat):Txt.find3 (sL w) (sL l) (i:Int)=intO (firstAt l w i):=by
 unfold Txt.find3
 have hi:fromIndex (sL w).length (i:Int)=i:=by unfold fromIndex; rw[if_neg (by lia)]; lia
 rw[hi,occ_one hl i]
 cases firstAt l w i <;> rfl
def allAt (l w:W)(lo:Nat):List Nat:=(List.range' lo (w.length+1-lo)).filter (stands l w)
theorem allAt_first {l w:W}{lo p:Nat}(h:firstAt l w lo=some p):lo≤p∧p≤w.length∧allAt l w lo=p::allAt l w (p+1):=by
 unfold firstAt at h
 unfold allAt
 have aux:∀ (n lo:Nat),(List.range' lo n).find? (stands l w)=some p→lo≤p∧p<lo+n∧(List.range' lo n).filter (stands l w)=p::(List.range' (p+1) (lo+n-(p+1))).filter (stands l w):=by
  intro n
  induction n with
  |zero=>intro lo h; simp at h
  |succ n ih =>
   intro lo h
   rw[List.range'_succ,List.find?_cons] at h
   rw[List.range'_succ,List.filter_cons]
   cases hs:stands l w lo with
   |true =>
    rw[hs] at h
    cases h
    refine⟨Nat.le_refl _,by lia,?_⟩
    rw[if_pos rfl]
    congr 3
    lia
   |false =>
    rw[hs] at h
    obtain⟨a,b,c⟩:=ih (lo+1) h
    refine⟨by lia,by lia,?_⟩
    rw[if_neg (by simp),c]
    congr 3
    lia
 obtain⟨a,b,c⟩:=aux _ _ h
 refine⟨a,by lia,?_⟩
 rw[c]
 congr 3
 lia
theorem allAt_none {l w:W}{lo:Nat}(h:firstAt l w lo=none):allAt l w lo=[]:=by
 unfold firstAt at h
 unfold allAt
 rw[List.filter_eq_nil_iff]
 intro i hi
 exact List.find?_eq_none.mp h i hi
theorem mem_allAt {l w:W}(hl:l≠[]){i:Nat}:i∈allAt l w 0↔stands l w i=true:=by
 unfold allAt
 rw[List.mem_filter,List.mem_range'_1]
 constructor
 ·exact fun h=>h.2
 ·intro h
  have:=stands_le hl h
  exact⟨⟨Nat.zero_le _,by lia⟩,h⟩
abbrev Ru:=W×W
def rTh (r:Ru):Th:=.tup [tS r.1,tS r.2]
def RT (R:List Ru):Th:=.tup (R.map rTh)
def prTh (p:Nat×Nat):Th:=.tup [.int (p.1:Int),.int (p.2:Int)]
theorem perm_of_mem {α:Type}[DecidableEq α]:∀ {a b:List α},a.Nodup→b.Nodup→(∀ x,x∈a↔x∈b)→a.Perm b
 |[],b,_,_,h=>by
  have:b=[]:=List.eq_nil_iff_forall_not_mem.mpr fun x hx=>absurd ((h x).mpr hx) (by simp)
  rw[this]
 |x::a,b,ha,hb,h=>by
  have hx:x∈b:=(h x).mp List.mem_cons_self
  have hna:=List.nodup_cons.mp ha
  refine (List.Perm.cons x (perm_of_mem hna.2 (hb.erase x) fun y=>?_)).trans (List.perm_cons_erase hx).symm
  rw[hb.mem_erase_iff]
  constructor
  ·intro hy
   exact⟨fun e=>hna.1 (e ▸ hy),(h y).mp (List.mem_cons_of_mem _ hy)⟩
  ·rintro⟨n,hy⟩
   rcases List.mem_cons.mp ((h y).mpr hy) with e | e
   ·exact absurd e n
   ·exact e
def rowFrom (w:W)(p:Nat):Nat→List Ru→List (Nat×Nat)
 |_,[]=>[]
 |k,r::R=>if stands r.1 w p=true then (p,k)::rowFrom w p (k+1) R else rowFrom w p (k+1) R
def placesW (R:List Ru)(w:W):List (Nat×Nat):=(List.range w.length).flatMap fun p=>rowFrom w p 0 R
theorem mem_row {w:W}{p:Nat}{x:Nat×Nat}:∀ {k:Nat} {R:List Ru},x∈rowFrom w p k R↔x.1=p∧k≤x.2∧∃ r,R[x.2-k]?=some r∧stands r.1 w p=true
 |k,[]=>by simp[rowFrom]
 |k,r::R=>by
  have key:(x.1=p∧k≤x.2∧∃ q,(r::R)[x.2-k]?=some q∧stands q.1 w p=true)↔((x=(p,k)∧stands r.1 w p=true)∨(x.1=p∧k+1≤x.2∧∃ q,R[x.2-(k+1)]?=some q∧stands q.1 w p=true)):=by
   constructor
   ·rintro⟨h1,h2,q,h3,h4⟩
    by_cases e:x.2=k
    ·left
     rw[e,Nat.sub_self,List.getElem?_cons_zero] at h3
     cases h3
     exact⟨Prod.ext h1 e,h4⟩
    ·right
     obtain⟨j,hj⟩:∃ j,x.2-k=j+1:=⟨x.2-k-1,by lia⟩
     rw[hj,List.getElem?_cons_succ] at h3
     refine⟨h1,by lia,q,?_,h4⟩
     rw[show x.2-(k+1)=j by lia]
     exact h3
   ·rintro (⟨e,h⟩ | ⟨h1,h2,q,h3,h4⟩)
    ·subst e
     exact⟨rfl,Nat.le_refl _,r,by simp,h⟩
    ·refine⟨h1,by lia,q,?_,h4⟩
     rw[show x.2-k=(x.2-(k+1))+1 by lia,List.getElem?_cons_succ]
     exact h3
  rw[key]
  unfold rowFrom
  split
  ·rename_i hs
   rw[List.mem_cons,mem_row (k:=k+1) (R:=R)]
   constructor
   ·rintro (e | e)
    ·exact .inl ⟨e,hs⟩
    ·exact .inr e
   ·rintro (⟨e,-⟩ | e)
    ·exact .inl e
    ·exact .inr e
  ·rename_i hs
   rw[mem_row (k:=k+1) (R:=R)]
   constructor
   ·exact .inr
   ·rintro (⟨-,e⟩ | e)
    ·exact absurd e hs
    ·exact e
def StepsAt (R:List Ru)(w:W)(x:Nat×Nat):Prop:=∃ r,R[x.2]?=some r∧stands r.1 w x.1=true
theorem mem_places {R:List Ru}{w:W}(hR:∀ r∈R,r.1≠[]){x:Nat×Nat}:x∈placesW R w↔StepsAt R w x:=by
 unfold placesW StepsAt
 rw[List.mem_flatMap]
 constructor
 ·rintro⟨p,-,h⟩
  obtain⟨h1,-,r,h3,h4⟩:=mem_row.mp h
  subst h1
  exact⟨r,by simpa using h3,h4⟩
 ·rintro⟨r,h1,h2⟩
  have hl:=stands_le (hR r (List.mem_of_getElem? h1)) h2
  have:0<r.1.length:=List.length_pos_iff.mpr (hR r (List.mem_of_getElem? h1))
  exact⟨x.1,List.mem_range.mpr (by lia),mem_row.mpr ⟨rfl,Nat.zero_le _,r,by simpa using h1,h2⟩⟩
theorem row_rise (w:W)(p:Nat):∀ (k:Nat) (R:List Ru),(rowFrom w p k R).Pairwise fun a b=>a.1=b.1∧a.2<b.2
 |k,[]=>List.Pairwise.nil
 |k,r::R=>by
  unfold rowFrom
  split
  ·refine List.Pairwise.cons (fun b hb=>?_) (row_rise w p (k+1) R)
   obtain⟨h1,h2,-⟩:=mem_row.mp hb
   exact⟨h1.symm,h2⟩
  ·exact row_rise w p (k+1) R
def LtP (a b:Nat×Nat):Prop:=a.1<b.1∨(a.1=b.1∧a.2<b.2)
theorem places_rise (R:List Ru)(w:W):(placesW R w).Pairwise LtP:=by
 unfold placesW
 rw[List.pairwise_flatMap]
 refine⟨fun p _=>(row_rise w p 0 R).imp fun h=>.inr h,?_⟩
 refine List.Pairwise.imp (fun {p q} hpq x hx y hy=>.inl ?_) (List.pairwise_lt_range (n:=w.length))
 rw[(mem_row.mp hx).1,(mem_row.mp hy).1]
 exact hpq
theorem places_nodup (R:List Ru)(w:W):(placesW R w).Nodup:=(places_rise R w).imp fun {a b} h e=>by
 subst e
 unfold LtP at h
 lia
def colsFrom (w:W):Nat→List Ru→List (Nat×Nat)
 |_,[]=>[]
 |k,r::R=>(allAt r.1 w 0).map (fun p=>(p,k))++colsFrom w (k+1) R
theorem mem_cols {w:W}{x:Nat×Nat}:∀ {k:Nat} {R:List Ru},(∀ r∈R,r.1≠[])→(x∈colsFrom w k R↔k≤x.2∧∃ r,R[x.2-k]?=some r∧stands r.1 w x.1=true)
 |k,[],_=>by simp[colsFrom]
 |k,r::R,hR=>by
  unfold colsFrom
  rw[List.mem_append,mem_cols (k:=k+1) (R:=R) fun q hq=>hR q (List.mem_cons_of_mem _ hq),List.mem_map]
  constructor
  ·rintro (⟨p,hp,e⟩ | ⟨h2,q,h3,h4⟩)
   ·subst e
    exact⟨Nat.le_refl _,r,by simp,(mem_allAt (hR r List.mem_cons_self)).mp hp⟩
   ·refine⟨by lia,q,?_,h4⟩
    rw[show x.2-k=(x.2-(k+1))+1 by lia,List.getElem?_cons_succ]
    exact h3
  ·rintro⟨h2,q,h3,h4⟩
   by_cases e:x.2=k
   ·left
    rw[e,Nat.sub_self,List.getElem?_cons_zero] at h3
    cases h3
    exact⟨x.1,(mem_allAt (hR r List.mem_cons_self)).mpr h4,Prod.ext rfl e.symm⟩
   ·right
    obtain⟨j,hj⟩:∃ j,x.2-k=j+1:=⟨x.2-k-1,by lia⟩
    rw[hj,List.getElem?_cons_succ] at h3
    refine⟨by lia,q,?_,h4⟩
    rw[show x.2-(k+1)=j by lia]
    exact h3
theorem allAt_nodup (l w:W):(allAt l w 0).Nodup:=by
 unfold allAt
 exact List.Pairwise.filter _ List.nodup_range'
theorem cols_nodup {w:W}:∀ {k:Nat} {R:List Ru},(∀ r∈R,r.1≠[])→(colsFrom w k R).Nodup
 |k,[],_=>List.nodup_nil
 |k,r::R,hR=>by
  unfold colsFrom
  have hR':∀ q∈R,q.1≠[]:=fun q hq=>hR q (List.mem_cons_of_mem _ hq)
  refine List.nodup_append.mpr ⟨?_,cols_nodup hR',fun a ha b hb e=>?_⟩
  ·refine List.Pairwise.map _ (fun a b h e=>h ?_) (allAt_nodup r.1 w)
   exact congrArg Prod.fst e
  ·subst e
   obtain⟨p,-,rfl⟩:=List.mem_map.mp ha
   have:=((mem_cols hR').mp hb).1
   simp only at this
   lia
theorem cols_perm {R:List Ru}{w:W}(hR:∀ r∈R,r.1≠[]):(placesW R w).Perm (colsFrom w 0 R):=by
 refine perm_of_mem (places_nodup R w) (cols_nodup hR) fun x=>?_
 rw[mem_places hR,mem_cols hR]
 unfold StepsAt
 simp
theorem sort_places {R:List Ru}{w:W}(hR:∀ r∈R,r.1≠[]):sortT ((colsFrom w 0 R).map prTh)=(placesW R w).map prTh:=by
 refine sortT_of ((cols_perm hR).map _) (List.pairwise_map.mpr ((places_rise R w).imp fun {a b} h=>?_))
 refine .ii ?_
 unfold LtP at h
 lia
theorem okT_pr (l:List (Nat×Nat)):okT (l.map prTh)=true:=by
 unfold okT
 have:(l.map prTh).all (okK .ii)=true:=by
  rw[List.all_map,List.all_eq_true]
  intro x _
  rfl
 rw[this]
 simp
theorem row_len (w:W)(p:Nat):∀ (k:Nat) (R:List Ru),(rowFrom w p k R).length≤R.length
 |k,[]=>Nat.le_refl _
 |k,r::R=>by
  unfold rowFrom
  have:=row_len w p (k+1) R
  split <;> simp <;> lia
theorem places_len (R:List Ru)(w:W):(placesW R w).length≤w.length*R.length:=by
 unfold placesW
 have:∀ l:List Nat,(l.flatMap fun p=>rowFrom w p 0 R).length≤l.length*R.length:=by
  intro l
  induction l with
  |nil=>simp
  |cons p l ih =>
   rw[List.flatMap_cons,List.length_append,List.length_cons,Nat.succ_mul]
   have:=row_len w p 0 R
   lia
 have h:=this (List.range w.length)
 rwa [List.length_range] at h
def chW (r:Ru)(w:W)(p:Nat):W:=w.take p++r.2++w.drop (p+r.1.length)
def stepsW (R:List Ru)(w:W):List W:=(placesW R w).filterMap fun x=>(R[x.2]?).map fun r=>chW r w x.1
def ltW (a b:W):Prop:=a.length<b.length∨(a.length=b.length∧a<b)
theorem lt_app_left (u:W){a b:W}(h:a<b):u++a<u++b:=by
 induction u with
 |nil=>exact h
 |cons c u ih=>exact List.cons_lt_cons_iff.mpr (.inr ⟨rfl,ih⟩)
theorem lt_app_right {a b:W}(v:W)(h:a<b)(hl:a.length=b.length):a++v<b++v:=by
 induction a generalizing b with
 |nil =>
  cases b with
  |nil=>exact absurd h (List.lt_irrefl _)
  |cons _ _=>simp at hl
 |cons c a ih =>
  cases b with
  |nil=>simp at hl
  |cons d b =>
   rw[List.cons_append,List.cons_append]
   rcases List.cons_lt_cons_iff.mp h with q | ⟨e,q⟩
   ·exact List.cons_lt_cons_iff.mpr (.inl q)
   ·exact List.cons_lt_cons_iff.mpr (.inr ⟨e,ih q (by simpa using hl)⟩)
theorem ltW_ctx {l r:W}(u v:W)(h:ltW r l):ltW (u++r++v) (u++l++v):=by
 rcases h with h | ⟨h1,h2⟩
 ·left
  simp only[List.length_append]
  lia
 ·right
  refine⟨by simp only[List.length_append]; lia,?_⟩
  rw[List.append_assoc,List.append_assoc]
  exact lt_app_left u (lt_app_right v h2 h1)
theorem ltW_step {R:List Ru}(hR:∀ r∈R,r.1≠[]∧ltW r.2 r.1){w:W}{x:Nat×Nat}{r:Ru}(h1:R[x.2]?=some r)(h2:stands r.1 w x.1=true):ltW (chW r w x.1) w:=by
 have hr:=hR r (List.mem_of_getElem? h1)
 have hl:=stands_le hr.1 h2
 have e:=stands_cut h2 (by lia)
 have z:=ltW_ctx (w.take x.1) (w.drop (x.1+r.1.length)) hr.2
 rw[← e] at z
 exact z
theorem mem_steps {R:List Ru}(hR:∀ r∈R,r.1≠[]){w y:W}:y∈stepsW R w↔∃ (p:Nat) (r:Ru),r∈R∧stands r.1 w p=true∧y=chW r w p:=by
 unfold stepsW
 rw[List.mem_filterMap]
 constructor
 ·rintro⟨x,hx,e⟩
  obtain⟨r,h1,h2⟩:=(mem_places hR).mp hx
  rw[h1] at e
  cases e
  exact⟨x.1,r,List.mem_of_getElem? h1,h2,rfl⟩
 ·rintro⟨p,r,hr,h2,e⟩
  obtain⟨k,hk,e1⟩:=List.getElem_of_mem hr
  have h1:R[k]?=some r:=by rw[List.getElem?_eq_getElem hk,e1]
  refine⟨(p,k),(mem_places hR).mpr ⟨r,h1,h2⟩,?_⟩
  show (R[k]?).map _=_
  rw[h1,e]
  rfl
end L2
namespace L2
open PySem
inductive Rch {α:Type} (nx:α→List α):α→α→Prop where
 |refl (x:α):Rch nx x x
 |step {x y z:α} (r:Rch nx x y) (h:z∈nx y):Rch nx x z
section
variable {α:Type}[DecidableEq α]{nx:α→List α}{U:List α}
theorem Rch.mem (hU:∀ x∈U,∀ y∈nx x,y∈U){x y:α}(r:Rch nx x y)(hx:x∈U):y∈U:=by
 induction r with
 |refl=>exact hx
 |step r h ih=>exact hU _ ih _ h
theorem nodup_sub_len {α:Type}[DecidableEq α]:∀ {a U:List α},a.Nodup→(∀ x∈a,x∈U)→a.length≤U.length
 |[],_,_,_=>Nat.zero_le _
 |x::a,U,hn,hs=>by
  obtain⟨h1,h2⟩:=List.nodup_cons.mp hn
  have hx:x∈U:=hs x List.mem_cons_self
  have ih:=nodup_sub_len (U:=U.erase x) h2 fun y hy=>(List.mem_erase_of_ne (fun e=>h1 (by rw[← e]; exact hy))).mpr (hs y (List.mem_cons_of_mem _ hy))
  have:=List.length_erase_of_mem hx
  have:=List.length_pos_of_mem hx
  rw[List.length_cons]
  lia
structure DfsOk (nx:α→List α)(s:α)(v w:List α):Prop where
 nd:v.Nodup
 vr:∀ x∈v,Rch nx s x
 wr:∀ x∈w,Rch nx s x
 cl:∀ x∈v,∀ y∈nx x,y∈v∨y∈w
 st:s∈v∨s∈w
theorem DfsOk.skip {s x:α}{v w:List α}(k:DfsOk nx s v (w++[x]))(h:x∈v):DfsOk nx s v w where
 nd:=k.nd
 vr:=k.vr
 wr:=fun y hy=>k.wr y (List.mem_append_left _ hy)
 cl:=fun y hy z hz=>by
  rcases k.cl y hy z hz with q | q
  ·exact .inl q
  ·rcases List.mem_append.mp q with q | q
   ·exact .inr q
   ·rw[List.mem_singleton] at q; subst q; exact .inl h
 st:=by
  rcases k.st with q | q
  ·exact .inl q
  ·rcases List.mem_append.mp q with q | q
   ·exact .inr q
   ·rw[List.mem_singleton] at q; subst q; exact .inl h
theorem DfsOk.all {s:α}{v:List α}(k:DfsOk nx s v []){x:α}:x∈v↔Rch nx s x:=by
 refine⟨k.vr x,fun r=>?_⟩
 induction r with
 |refl=>exact k.st.elim id fun z=>nomatch z
 |step _ h ih=>exact (k.cl _ ih _ h).elim id fun z=>nomatch z
structure BfsOk (nx:α→List α)(s:α)(i:Nat)(v:List α):Prop where
 nd:v.Nodup
 le:i≤v.length
 vr:∀ x∈v,Rch nx s x
 cl:∀ x∈v.take i,∀ y∈nx x,y∈v
 st:s∈v
def newOf (v l:List α):List α:=l.filter fun y=>!decide (y∈v)
theorem BfsOk.turn {s x:α}{i:Nat}{v:List α}(k:BfsOk nx s i v)(hx:v[i]?=some x)(hn:(nx x).Nodup):BfsOk nx s (i+1) (v++newOf v (nx x)):=by
 have hi:i<v.length:=(List.getElem?_eq_some_iff.mp hx).1
 have hm:x∈v:=List.mem_of_getElem? hx
 have mem:∀ y,y∈nx x→y∈v++newOf v (nx x):=fun y hy=>by
  by_cases q:y∈v
  ·exact List.mem_append_left _ q
  ·exact List.mem_append_right _ (List.mem_filter.mpr ⟨hy,by simpa using q⟩)
 refine⟨List.nodup_append.mpr ⟨k.nd,List.Pairwise.filter _ hn,fun a ha b hb e=>?_⟩,by rw[List.length_append]; lia,fun y hy=>?_,fun y hy z hz=>?_,List.mem_append_left _ k.st⟩
 ·subst e
  have:=(List.mem_filter.mp hb).2
  simp[ha] at this
 ·rcases List.mem_append.mp hy with q | q
  ·exact k.vr y q
  ·exact .step (k.vr x hm) (List.mem_filter.mp q).1
 ·rw[List.take_append_of_le_length (by lia),List.take_add_one,hx] at hy
  rcases List.mem_append.mp hy with q | q
  ·exact List.mem_append_left _ (k.cl y q z hz)
  ·have:y=x:=by simpa using q
   subst this
   exact mem z hz
theorem BfsOk.all {s:α}{v:List α}(k:BfsOk nx s v.length v){x:α}:x∈v↔Rch nx s x:=by
 refine⟨k.vr x,fun r=>?_⟩
 induction r with
 |refl=>exact k.st
 |step _ h ih=>exact k.cl _ (by rw[List.take_length]; exact ih) _ h
end
end L2
namespace L2
open PySem
def ovW (l m:W)(p:Nat):W:=l.take p++m++l.drop (p+m.length)
def ClW (R:List Ru)(u:W):Prop:=∃ (i j:Nat) (a b:Ru) (p:Nat),R[i]?=some a∧R[j]?=some b∧(i=j→1≤p)∧p<a.1.length∧u=ovW a.1 b.1 p∧a.1 <+: u
def StW (R:List Ru)(w y:W):Prop:=∃ (p:Nat) (r:Ru),r∈R∧stands r.1 w p=true∧y=chW r w p
theorem st_ctx {R:List Ru}{w y:W}(u v:W)(hne:∀ r∈R,r.1≠[])(h:StW R w y):StW R (u++w++v) (u++y++v):=by
 obtain⟨p,r,hr,hs,rfl⟩:=h
 have hl:=stands_le (hne r hr) hs
 have e:=stands_cut hs (by lia)
 refine⟨u.length+p,r,hr,?_,?_⟩
 ·rw[stands_iff,List.append_assoc,List.drop_append,List.drop_of_length_le (by lia),List.nil_append,Nat.add_sub_cancel_left,List.drop_append_of_le_length (by lia)]
  exact (stands_iff.mp hs).trans (List.prefix_append _ _)
 ·unfold chW
  have l1:(u++w++v).take (u.length+p)=u++w.take p:=by
   rw[List.append_assoc,List.take_append,List.take_of_length_le (by lia),Nat.add_sub_cancel_left,List.take_append_of_le_length (by lia)]
  have l2:(u++w++v).drop (u.length+p+r.1.length)=w.drop (p+r.1.length)++v:=by
   rw[List.append_assoc,Nat.add_assoc,List.drop_append,List.drop_of_length_le (by lia),List.nil_append,Nat.add_sub_cancel_left,List.drop_append_of_le_length (by lia)]
  rw[l1,l2]
  simp only[List.append_assoc]
section
variable {R:List Ru}{nx:W→List W}
theorem Rch.trans {α:Type}{nx:α→List α}{x y z:α}(a:Rch nx x y)(b:Rch nx y z):Rch nx x z:=by
 induction b with
 |refl=>exact a
 |step _ h ih=>exact .step ih h
theorem Rch.head {α:Type}{nx:α→List α}{x z:α}(r:Rch nx x z):x=z∨∃ y,y∈nx x∧Rch nx y z:=by
 induction r with
 |refl=>exact .inl rfl
 |step r h ih =>
  rcases ih with e | ⟨y,hy,q⟩
  ·subst e
   exact .inr ⟨_,h,.refl _⟩
  ·exact .inr ⟨y,hy,.step q h⟩
theorem rch_ctx (hne:∀ r∈R,r.1≠[])(hn:∀ w y,y∈nx w↔StW R w y){w y:W}(u v:W)(h:Rch nx w y):Rch nx (u++w++v) (u++y++v):=by
 induction h with
 |refl=>exact .refl _
 |step _ h ih=>exact .step ih ((hn _ _).mpr (st_ctx u v hne ((hn _ _).mp h)))
def OneW (nx:W→List W)(w:W):Prop:=∀ a b,Rch nx w a→Rch nx w b→nx a=[]→nx b=[]→a=b
theorem newman {P:W→Prop}{μ:W→Nat}(hP:∀ w,P w→∀ y∈nx w,P y∧μ y<μ w)(hl:∀ w,P w→∀ y∈nx w,∀ z∈nx w,∃ e,Rch nx y e∧Rch nx z e):∀ w,P w→OneW nx w:=by
 have pr:∀ {w y},Rch nx w y→P w→P y:=fun {w y} r=>by
  induction r with
  |refl=>exact id
  |step _ h ih=>exact fun p=>(hP _ (ih p) _ h).1
 have low:∀ n w,P w→μ w=n→∃ e,Rch nx w e∧nx e=[]:=by
  intro n
  induction n using Nat.strongRecOn with
  |ind n ih =>
   intro w pw e
   cases h:nx w with
   |nil=>exact⟨w,.refl _,h⟩
   |cons y l =>
    have hy:y∈nx w:=by rw[h]; exact List.mem_cons_self
    obtain⟨py,ly⟩:=hP w pw y hy
    obtain⟨e1,r1,r2⟩:=ih (μ y) (by lia) y py rfl
    exact⟨e1,Rch.trans (.step (.refl _) hy) r1,r2⟩
 have main:∀ n w,P w→μ w=n→OneW nx w:=by
  intro n
  induction n using Nat.strongRecOn with
  |ind n ih =>
   intro w pw e a b ra rb na nb
   rcases ra.head with q | ⟨y,hy,qa⟩
   ·subst q
    rcases rb.head with q | ⟨z,hz,-⟩
    ·exact q
    ·rw[na] at hz; cases hz
   ·rcases rb.head with q | ⟨z,hz,qb⟩
    ·subst q
     rw[nb] at hy; cases hy
    ·obtain⟨py,ly⟩:=hP w pw y hy
     obtain⟨pz,lz⟩:=hP w pw z hz
     obtain⟨c,c1,c2⟩:=hl w pw y hy z hz
     obtain⟨n0,d1,d2⟩:=low _ c (pr c1 py) rfl
     have h1:=ih (μ y) (by lia) y py rfl a n0 qa (c1.trans d1) na d2
     have h2:=ih (μ z) (by lia) z pz rfl b n0 qb (c2.trans d1) nb d2
     rw[h1,h2]
 exact fun w pw=>main _ w pw rfl
theorem pre_len {a b x:W}(h1:a <+: x)(h2:b <+: x)(h:a.length≤b.length):a <+: b:=List.prefix_of_prefix_length_le h1 h2 h
theorem ov_pre {l m x:W}{p:Nat}(hp:p≤l.length)(h1:l <+: x)(h2:m <+: x.drop p):ovW l m p <+: x∧l <+: ovW l m p:=by
 obtain⟨t,rfl⟩:=h1
 have e1:(l++t).drop p=l.drop p++t:=by rw[List.drop_append_of_le_length hp]
 rw[e1] at h2
 unfold ovW
 by_cases hm:p+m.length≤l.length
 ·have h3:m <+: l.drop p:=pre_len h2 (List.prefix_append _ _) (by rw[List.length_drop]; lia)
  obtain⟨s,hs⟩:=h3
  have e2:l.drop (p+m.length)=s:=by rw[← List.drop_drop,← hs,List.drop_left]
  have e3:l.take p++m++l.drop (p+m.length)=l:=by rw[e2,List.append_assoc,hs,List.take_append_drop]
  rw[e3]
  exact⟨List.prefix_append _ _,List.prefix_refl _⟩
 ·have e2:l.drop (p+m.length)=[]:=List.drop_of_length_le (by lia)
  rw[e2,List.append_nil]
  constructor
  ·have:l++t=l.take p++(l.drop p++t):=by rw[← List.append_assoc,List.take_append_drop]
   rw[this]
   exact (List.prefix_append_right_inj _).mpr h2
  ·have:l.drop p <+: m:=pre_len (List.prefix_append _ _) h2 (by rw[List.length_drop]; lia)
   calc l=l.take p++l.drop p:=(List.take_append_drop _ _).symm
    _ <+: _:=(List.prefix_append_right_inj _).mpr this
theorem ov_stands {l m:W}{p:Nat}(hp:p≤l.length):stands m (ovW l m p) p=true:=by
 rw[stands_iff]
 unfold ovW
 rw[List.append_assoc,List.drop_append,List.drop_of_length_le (by rw[List.length_take]; lia),List.nil_append,List.length_take,Nat.min_eq_left hp,Nat.sub_self,List.drop_zero]
 exact List.prefix_append _ _
theorem ch_app {r:Ru}{w t:W}{p:Nat}(h:p+r.1.length≤w.length):chW r (w++t) p=chW r w p++t:=by
 unfold chW
 rw[List.take_append_of_le_length (by lia),List.drop_append_of_le_length h]
 simp only[List.append_assoc]
theorem ch_pre {r:Ru}{u w:W}{p:Nat}:chW r (u++w) (u.length+p)=u++chW r w p:=by
 unfold chW
 rw[List.take_append,List.take_of_length_le (by lia),Nat.add_sub_cancel_left,Nat.add_assoc,List.drop_append,List.drop_of_length_le (by lia),List.nil_append,Nat.add_sub_cancel_left]
 simp only[List.append_assoc]
theorem local_joins (hne:∀ r∈R,r.1≠[])(hn:∀ w y,y∈nx w↔StW R w y)(hc:∀ u,ClW R u→∀ y∈nx u,∀ z∈nx u,∃ e,Rch nx y e∧Rch nx z e)(w:W):∀ y∈nx w,∀ z∈nx w,∃ e,Rch nx y e∧Rch nx z e:=by
 have half:∀ (p q:Nat) (a b:Ru),a∈R→b∈R→stands a.1 w p=true→stands b.1 w q=true→p≤q→∃ e,Rch nx (chW a w p) e∧Rch nx (chW b w q) e:=by
  intro p q a b ha hb sa sb hpq
  have la:=stands_le (hne a ha) sa
  have lb:=stands_le (hne b hb) sb
  obtain⟨u,x,rfl,rfl⟩:∃ u x,w=u++x∧u.length=p:=⟨w.take p,w.drop p,(List.take_append_drop _ _).symm,by rw[List.length_take]; lia⟩
  obtain⟨k,rfl⟩:∃ k,q=u.length+k:=⟨q-u.length,by lia⟩
  have pa:a.1 <+: x:=by
   have:=stands_iff.mp sa
   rwa [List.drop_left] at this
  have pb:b.1 <+: x.drop k:=by
   have:=stands_iff.mp sb
   rwa [List.drop_append,List.drop_of_length_le (by lia),List.nil_append,Nat.add_sub_cancel_left] at this
  have e0:chW a (u++x) u.length=u++chW a x 0:=ch_pre (p:=0)
  rw[e0,ch_pre]
  by_cases hk:a.1.length≤k
  ·obtain⟨t,rfl⟩:=pa
   have hm:(a.1++t).drop k=t.drop (k-a.1.length):=by rw[List.drop_append,List.drop_of_length_le hk,List.nil_append]
   rw[hm] at pb
   obtain⟨m,t',rfl,hml⟩:∃ m t',t=m++b.1++t'∧m.length=k-a.1.length:=by
    obtain⟨t',ht⟩:=pb
    refine⟨t.take (k-a.1.length),t',by rw[List.append_assoc,ht,List.take_append_drop],?_⟩
    rw[List.length_take]
    rw[List.length_append,List.length_append] at lb
    lia
   have f1:chW a (a.1++(m++b.1++t')) 0=a.2++m++b.1++t':=by
    unfold chW
    rw[List.take_zero,Nat.zero_add,List.drop_left]
    simp only[List.nil_append,List.append_assoc]
   have f2:chW b (a.1++(m++b.1++t')) k=a.1++m++b.2++t':=by
    have ek:k=(a.1++m).length+0:=by rw[List.length_append]; lia
    have ew:a.1++(m++b.1++t')=(a.1++m)++(b.1++t'):=by simp only[List.append_assoc]
    rw[ek,ew,ch_pre]
    unfold chW
    rw[List.take_zero,Nat.zero_add,List.drop_left]
    simp only[List.nil_append,List.append_assoc]
   have one:∀ (r:Ru) (x y:W),r∈R→Rch nx (x++r.1++y) (x++r.2++y):=fun r x y hr=>by
    refine rch_ctx hne hn x y (.step (.refl _) ((hn _ _).mpr ⟨0,r,hr,?_,?_⟩))
    ·rw[stands_iff]; exact List.prefix_refl _
    ·unfold chW
     rw[List.take_zero,Nat.zero_add,List.drop_length]
     simp
   refine⟨u++a.2++m++b.2++t',?_,?_⟩
   ·rw[f1]
    have:=one b (u++a.2++m) t' hb
    simpa only [List.append_assoc] using this
   ·rw[f2]
    have:=one a u (m++b.2++t') ha
    simpa only [List.append_assoc] using this
  ·by_cases same:k=0∧a=b
   ·obtain⟨rfl,rfl⟩:=same
    exact⟨_,.refl _,.refl _⟩
   ·obtain⟨⟨t,ht⟩,pl⟩:=ov_pre (l:=a.1) (m:=b.1) (by lia) pa pb
    have so:=ov_stands (l:=a.1) (m:=b.1) (p:=k) (by lia)
    obtain⟨i,hi,ei⟩:=List.getElem_of_mem ha
    obtain⟨j,hj,ej⟩:=List.getElem_of_mem hb
    have hcl:ClW R (ovW a.1 b.1 k):=by
     refine⟨i,j,a,b,k,by rw[List.getElem?_eq_getElem hi,ei],by rw[List.getElem?_eq_getElem hj,ej],fun e=>?_,by lia,rfl,pl⟩
     subst e
     rw[ei] at ej
     rcases Nat.eq_zero_or_pos k with z | z
     ·exact absurd ⟨z,ej⟩ same
     ·exact z
    have s1:stands a.1 (ovW a.1 b.1 k) 0=true:=stands_iff.mpr pl
    obtain⟨e,r1,r2⟩:=hc _ hcl _ ((hn _ _).mpr ⟨0,a,ha,s1,rfl⟩) _ ((hn _ _).mpr ⟨k,b,hb,so,rfl⟩)
    have l1:=stands_le (hne a ha) s1
    have l2:=stands_le (hne b hb) so
    refine⟨u++e++t,?_,?_⟩
    ·rw[← ht,ch_app l1,← List.append_assoc]
     exact rch_ctx hne hn u t r1
    ·rw[← ht,ch_app l2,← List.append_assoc]
     exact rch_ctx hne hn u t r2
 intro y hy z hz
 obtain⟨p,a,ha,sa,rfl⟩:=(hn _ _).mp hy
 obtain⟨q,b,hb,sb,rfl⟩:=(hn _ _).mp hz
 rcases Nat.le_total p q with h | h
 ·exact half p q a b ha hb sa sb h
 ·obtain⟨e,r1,r2⟩:=half q p b a hb ha sb sa h
  exact⟨e,r2,r1⟩
end
end L2
namespace L2
open PySem
def ovsW (l m:W)(st:Nat):List W:=((List.range' st (l.length-st)).map (ovW l m)).filter fun u=>l.isPrefixOf u
theorem mem_ovs {l m u:W}{st:Nat}:u∈ovsW l m st↔∃ p,st≤p∧p<l.length∧u=ovW l m p∧l <+: u:=by
 unfold ovsW
 rw[List.mem_filter,List.mem_map]
 constructor
 ·rintro⟨⟨p,hp,e⟩,h⟩
  obtain⟨h1,h2⟩:=List.mem_range'_1.mp hp
  exact⟨p,h1,by lia,e.symm,List.isPrefixOf_iff_prefix.mp h⟩
 ·rintro⟨p,h1,h2,e,h⟩
  exact⟨⟨p,List.mem_range'_1.mpr ⟨h1,by lia⟩,e.symm⟩,List.isPrefixOf_iff_prefix.mpr h⟩
theorem ovs_len (l m:W)(st:Nat):(ovsW l m st).length≤l.length:=by
 unfold ovsW
 exact Nat.le_trans (List.length_filter_le _ _) (by rw[List.length_map,List.length_range']; lia)
def clRow (a:Ru)(i:Nat):Nat→List Ru→List W
 |_,[]=>[]
 |j,b::R=>ovsW a.1 b.1 (if i=j then 1 else 0)++clRow a i (j+1) R
def clAll (R0:List Ru):Nat→List Ru→List W
 |_,[]=>[]
 |i,a::R=>clRow a i 0 R0++clAll R0 (i+1) R
theorem mem_clRow {a:Ru}{i:Nat}{u:W}:∀ {j:Nat} {R:List Ru},u∈clRow a i j R↔∃ k b,R[k]?=some b∧u∈ovsW a.1 b.1 (if i=j+k then 1 else 0)
 |j,[]=>by simp[clRow]
 |j,b::R=>by
  unfold clRow
  rw[List.mem_append,mem_clRow]
  constructor
  ·rintro (h | ⟨k,c,h1,h2⟩)
   ·exact⟨0,b,rfl,h⟩
   ·refine⟨k+1,c,h1,?_⟩
    rw[show j+(k+1)=j+1+k by lia]
    exact h2
  ·rintro⟨k,c,h1,h2⟩
   cases k with
   |zero=>cases h1; exact .inl h2
   |succ k =>
    refine .inr ⟨k,c,h1,?_⟩
    rw[show j+1+k=j+(k+1) by lia]
    exact h2
theorem mem_clAll {R0:List Ru}{u:W}:∀ {i:Nat} {R:List Ru},u∈clAll R0 i R↔∃ k a,R[k]?=some a∧u∈clRow a (i+k) 0 R0
 |i,[]=>by simp[clAll]
 |i,b::R=>by
  unfold clAll
  rw[List.mem_append,mem_clAll]
  constructor
  ·rintro (h | ⟨k,c,h1,h2⟩)
   ·exact⟨0,b,rfl,h⟩
   ·refine⟨k+1,c,h1,?_⟩
    rw[show i+(k+1)=i+1+k by lia]
    exact h2
  ·rintro⟨k,c,h1,h2⟩
   cases k with
   |zero=>cases h1; exact .inl h2
   |succ k =>
    refine .inr ⟨k,c,h1,?_⟩
    rw[show i+1+k=i+(k+1) by lia]
    exact h2
theorem mem_cl {R:List Ru}{u:W}:u∈clAll R 0 R↔ClW R u:=by
 rw[mem_clAll]
 constructor
 ·rintro⟨i,a,h1,h2⟩
  rw[mem_clRow] at h2
  obtain⟨j,b,h3,h4⟩:=h2
  obtain⟨p,q1,q2,q3,q4⟩:=mem_ovs.mp h4
  refine⟨i,j,a,b,p,h1,h3,fun e=>?_,q2,q3,q4⟩
  rw[if_pos (by lia)] at q1
  exact q1
 ·rintro⟨i,j,a,b,p,h1,h3,h,q2,q3,q4⟩
  refine⟨i,a,h1,mem_clRow.mpr ⟨j,b,h3,mem_ovs.mpr ⟨p,?_,q2,q3,q4⟩⟩⟩
  split
  ·rename_i e; exact h (by lia)
  ·exact Nat.zero_le _
theorem clRow_len {a:Ru}{i n:Nat}(ha:a.1.length≤n):∀ {j:Nat} {R:List Ru},(clRow a i j R).length≤R.length*n
 |_,[]=>by simp[clRow]
 |j,b::R=>by
  unfold clRow
  have h1:=ovs_len a.1 b.1 (if i=j then 1 else 0)
  have h2:=clRow_len (i:=i) ha (j:=j+1) (R:=R)
  rw[List.length_append,List.length_cons,Nat.succ_mul]
  lia
theorem clAll_len {R0:List Ru}{n:Nat}:∀ {i:Nat} {R:List Ru},(∀ a∈R,a.1.length≤n)→(clAll R0 i R).length≤R.length*(R0.length*n)
 |_,[],_=>by simp[clAll]
 |i,b::R,h=>by
  unfold clAll
  have h1:=clRow_len (i:=i) (h b List.mem_cons_self) (j:=0) (R:=R0)
  have h2:=clAll_len (R0:=R0) (i:=i+1) fun a ha=>h a (List.mem_cons_of_mem _ ha)
  rw[List.length_append,List.length_cons,Nat.succ_mul]
  lia
theorem cl_word {R:List Ru}{u:W}{P:Nat→Prop}{n:Nat}(hP:∀ r∈R,∀ c∈r.1,P c)(hn:∀ r∈R,r.1.length≤n)(h:ClW R u):u.length+1≤2*n∧∀ c∈u,P c:=by
 obtain⟨i,j,a,b,p,h1,h2,-,h3,rfl,-⟩:=h
 have ha:=List.mem_of_getElem? h1
 have hb:=List.mem_of_getElem? h2
 have la:=hn a ha
 have lb:=hn b hb
 unfold ovW
 constructor
 ·simp only[List.length_append,List.length_take,List.length_drop]
  lia
 ·intro c hc
  rcases List.mem_append.mp hc with hc | hc
  ·rcases List.mem_append.mp hc with hc | hc
   ·exact hP a ha c (List.mem_of_mem_take hc)
   ·exact hP b hb c hc
  ·exact hP a ha c (List.mem_of_mem_drop hc)
theorem two_of {α:Type}{l:List α}(h:l.Nodup)(h2:1<l.length):∃ a b,a∈l∧b∈l∧a≠b:=by
 match l,h,h2 with
 |a::b::r,h,_=>exact⟨a,b,by simp,by simp,fun e=>(List.nodup_cons.mp h).1 (by rw[e]; simp)⟩
 |[_],_,h2=>exact absurd h2 (by simp)
 |[],_,h2=>exact absurd h2 (by simp)
theorem two_len {α:Type}{l:List α}{a b:α}(ha:a∈l)(hb:b∈l)(h:a≠b):1<l.length:=by
 match l,ha,hb with
 |_::_::_,_,_=>simp
 |[x],ha,hb =>
  rw[List.mem_singleton] at ha hb
  exact absurd (ha.trans hb.symm) h
 |[],ha,_=>cases ha
end L2
namespace L2
open PySem
theorem ov_iff {l m:W}{p:Nat}(hp:p≤l.length):l.isPrefixOf (ovW l m p)=(m.isPrefixOf (l.drop p)||(l.drop p).isPrefixOf m):=by
 rw[Bool.eq_iff_iff,Bool.or_eq_true,List.isPrefixOf_iff_prefix,List.isPrefixOf_iff_prefix,List.isPrefixOf_iff_prefix]
 constructor
 ·intro h
  unfold ovW at h
  rw[List.append_assoc] at h
  have h2:l.drop p <+: m++l.drop (p+m.length):=by
   have e:l=l.take p++l.drop p:=(List.take_append_drop _ _).symm
   have h':l.take p++l.drop p <+: l.take p++(m++l.drop (p+m.length)):=by rw[List.take_append_drop]; exact h
   exact (List.prefix_append_right_inj _).mp h'
  rcases Nat.le_total m.length (l.drop p).length with q | q
  ·exact .inl (pre_len (List.prefix_append _ _) h2 q)
  ·exact .inr (pre_len h2 (List.prefix_append _ _) q)
 ·rintro (h | h)
  ·exact (ov_pre (x:=l) hp (List.prefix_refl _) h).2
  ·have:=ov_pre (l:=l) (m:=m) (x:=l.take p++m) hp (by
    calc l=l.take p++l.drop p:=(List.take_append_drop _ _).symm
     _ <+: _:=(List.prefix_append_right_inj _).mpr h) (by
    rw[List.drop_append,List.drop_of_length_le (by rw[List.length_take]; lia),List.nil_append,List.length_take,Nat.min_eq_left hp,Nat.sub_self,List.drop_zero]
    exact List.prefix_refl _)
   exact this.2
theorem ov_word {l m:W}{p:Nat}(hp:p≤l.length)(h:l.isPrefixOf (ovW l m p)=true):ovW l m p=if (l.drop p).length<m.length then l.take p++m else l:=by
 have h':=List.isPrefixOf_iff_prefix.mp h
 have ld:(l.drop p).length=l.length-p:=List.length_drop
 unfold ovW at h' ⊢
 by_cases q:(l.drop p).length<m.length
 ·rw[if_pos q,List.drop_of_length_le (by lia),List.append_nil]
 ·rw[if_neg q]
  have lm:(l.take p++m++l.drop (p+m.length)).length=l.length:=by simp only[List.length_append,List.length_take,List.length_drop]; lia
  exact (h'.eq_of_length lm.symm).symm
end L2
namespace L2
open PySem
theorem leS_total (a b:Str):leS a b∨leS b a:=List.le_total _ _
open Classical in
theorem sortS_ex (l:List Str):(sortS l).Perm l∧(sortS l).Pairwise leS:=by
 have h1:=List.mergeSort_perm l (fun a b=>decide (leS a b))
 have h2:=List.pairwise_mergeSort (le:=fun a b=>decide (leS a b)) (fun a b c h h'=>by simp only[decide_eq_true_eq] at *; exact leS_trans h h') (fun a b=>by simp only[Bool.or_eq_true,decide_eq_true_eq]; exact leS_total a b) l
 have h3:=h2.imp (fun {a b} h=>of_decide_eq_true h)
 rw[sortS_of h1 h3]
 exact⟨h1,h3⟩
theorem sortS_congr {a b:List Str}(h:a.Perm b):sortS a=sortS b:=sortS_of ((sortS_ex b).1.trans h.symm) (sortS_ex b).2
theorem sortT_str (l:List Str):sortT (l.map Th.str)=(sortS l).map Th.str:=sortT_of ((sortS_ex l).1.map _) (List.pairwise_map.mpr ((sortS_ex l).2.imp fun h=>.s h))
theorem okT_str (l:List Str):okT (l.map Th.str)=true:=by
 have:(l.map Th.str).all (okK .s)=true:=List.all_eq_true.mpr fun t ht=>by
  obtain⟨x,-,rfl⟩:=List.mem_map.mp ht
  rfl
 unfold okT
 rw[this]; rfl
theorem map_tS (l:List W):l.map tS=(l.map sL).map Th.str:=by rw[List.map_map]; rfl
def AbcW (w:W):Prop:=∀ c∈w,c=97∨c=98∨c=99
def wordsN:Nat→List W
 |0=>[[]]
 |n+1=>(wordsN n).flatMap fun w=>[97::w,98::w,99::w]
theorem mem_wordsN:∀ {n:Nat} {w:W},w∈wordsN n↔w.length=n∧AbcW w
 |0,w=>by
  show w∈[[]]↔_
  rw[List.mem_singleton]
  constructor
  ·rintro rfl
   exact⟨rfl,fun c h=>nomatch h⟩
  ·rintro⟨h,-⟩
   exact List.length_eq_zero_iff.mp h
 |n+1,w=>by
  show w∈(wordsN n).flatMap _↔_
  rw[List.mem_flatMap]
  constructor
  ·rintro⟨v,hv,hw⟩
   obtain⟨h1,h2⟩:=mem_wordsN.mp hv
   simp only[List.mem_cons,List.not_mem_nil,or_false] at hw
   rcases hw with rfl | rfl | rfl
   ·exact⟨by rw[List.length_cons,h1],fun c hc=>(List.mem_cons.mp hc).elim (fun z=>.inl z) (h2 c)⟩
   ·exact⟨by rw[List.length_cons,h1],fun c hc=>(List.mem_cons.mp hc).elim (fun z=>.inr (.inl z)) (h2 c)⟩
   ·exact⟨by rw[List.length_cons,h1],fun c hc=>(List.mem_cons.mp hc).elim (fun z=>.inr (.inr z)) (h2 c)⟩
  ·rintro⟨h1,h2⟩
   cases w with
   |nil=>cases h1
   |cons c v =>
    refine⟨v,mem_wordsN.mpr ⟨by simpa using h1,fun d hd=>h2 d (List.mem_cons_of_mem _ hd)⟩,?_⟩
    rcases h2 c List.mem_cons_self with rfl | rfl | rfl <;> simp
theorem wordsN_len:∀ n:Nat,(wordsN n).length=3 ^ n
 |0=>rfl
 |n+1=>by
  show ((wordsN n).flatMap _).length=_
  rw[List.length_flatMap]
  have:((wordsN n).map fun w:W=>[97::w,98::w,99::w].length)=(wordsN n).map fun _=>3:=rfl
  rw[this,List.map_const',List.sum_replicate_nat,wordsN_len n,Nat.pow_succ]
def allW:List W:=(List.range 12).flatMap wordsN
theorem mem_allW {w:W}:w∈allW↔w.length≤11∧AbcW w:=by
 unfold allW
 rw[List.mem_flatMap]
 constructor
 ·rintro⟨n,hn,hw⟩
  obtain⟨h1,h2⟩:=mem_wordsN.mp hw
  have:=List.mem_range.mp hn
  exact⟨by lia,h2⟩
 ·rintro⟨h1,h2⟩
  exact⟨w.length,List.mem_range.mpr (by lia),mem_wordsN.mpr ⟨rfl,h2⟩⟩
theorem allW_len:allW.length=265720:=by
 unfold allW
 rw[List.length_flatMap]
 have:(List.range 12).map (fun n=>(wordsN n).length)=(List.range 12).map fun n=>3 ^ n:=List.map_congr_left fun n _=>wordsN_len n
 rw[this]
 rfl
def val:W→Nat
 |[]=>0
 |c::w=>(c+1)*128 ^ w.length+val w
theorem val_lt_pow:∀ {w:W},(∀ c∈w,c≤126)→val w<128 ^ w.length
 |[],_=>by decide
 |c::w,h=>by
  have ih:=val_lt_pow (w:=w) fun d hd=>h d (List.mem_cons_of_mem _ hd)
  have hc:=h c List.mem_cons_self
  show (c+1)*128 ^ w.length+val w<128 ^ (w.length+1)
  have:(c+1)*128 ^ w.length≤127*128 ^ w.length:=Nat.mul_le_mul_right _ (by lia)
  rw[Nat.pow_succ]
  lia
theorem val_lt:∀ {a b:W},ltW a b→(∀ c∈a,c≤126)→val a<val b:=by
 have eqlen:∀ {a b:W},a.length=b.length→a<b→(∀ c∈a,c≤126)→val a<val b:=by
  intro a
  induction a with
  |nil =>
   intro b hl h _
   cases b with
   |nil=>exact absurd h (List.lt_irrefl _)
   |cons=>cases hl
  |cons c a ih =>
   intro b hl h hc
   cases b with
   |nil=>cases hl
   |cons d b =>
    have hl':a.length=b.length:=by simpa using hl
    have hp:=val_lt_pow (w:=a) fun x hx=>hc x (List.mem_cons_of_mem _ hx)
    show (c+1)*128 ^ a.length+val a<(d+1)*128 ^ b.length+val b
    rw[← hl']
    rcases List.cons_lt_cons_iff.mp h with q | ⟨rfl,q⟩
    ·have:(c+1+1)*128 ^ a.length≤(d+1)*128 ^ a.length:=Nat.mul_le_mul_right _ (by lia)
     rw[Nat.add_mul (c+1) 1,Nat.one_mul] at this
     lia
    ·have:=ih hl' q fun x hx=>hc x (List.mem_cons_of_mem _ hx)
     lia
 intro a b h hc
 rcases h with h | ⟨h1,h2⟩
 ·cases b with
  |nil=>exact absurd h (Nat.not_lt_zero _)
  |cons d b =>
   have hp:=val_lt_pow hc
   have h':a.length≤b.length:=by rw[List.length_cons] at h; lia
   have:128 ^ a.length≤128 ^ b.length:=Nat.pow_le_pow_right (by decide) h'
   show val a<(d+1)*128 ^ b.length+val b
   have:1*128 ^ b.length≤(d+1)*128 ^ b.length:=Nat.mul_le_mul_right _ (by lia)
   lia
 ·exact eqlen h1 h2 hc
def firstW (R:List Ru)(w:W):Option W:=(placesW R w).head?.bind fun x=>(R[x.2]?).map fun r=>chW r w x.1
theorem first_some {R:List Ru}(hR:∀ r∈R,r.1≠[]){w y:W}(h:firstW R w=some y):y∈stepsW R w:=by
 unfold firstW at h
 unfold stepsW
 cases hp:placesW R w with
 |nil=>rw[hp] at h; cases h
 |cons x l =>
  rw[hp] at h
  exact List.mem_filterMap.mpr ⟨x,List.mem_cons_self,h⟩
theorem first_none {R:List Ru}(hR:∀ r∈R,r.1≠[]){w:W}(h:firstW R w=none):placesW R w=[]:=by
 unfold firstW at h
 cases hp:placesW R w with
 |nil=>rfl
 |cons x l =>
  obtain⟨r,hr,-⟩:=(mem_places hR).mp (show x∈placesW R w by rw[hp]; exact List.mem_cons_self)
  rw[hp] at h
  change ((R[x.2]?).map fun r=>chW r w x.1)=none at h
  rw[hr] at h
  cases h
end L2
namespace L2
open PySem
def candW (w:W):Nat→List Ru→List (Nat×Nat)
 |_,[]=>[]
 |k,r::R=>match firstAt r.1 w 0 with
  |some p=>(p,k)::candW w (k+1) R
  |none=>candW w (k+1) R
theorem mem_cand {w:W}{x:Nat×Nat}:∀ {k:Nat} {R:List Ru},x∈candW w k R↔k≤x.2∧∃ r,R[x.2-k]?=some r∧firstAt r.1 w 0=some x.1
 |k,[]=>by simp[candW]
 |k,r::R=>by
  have ih:=mem_cand (w:=w) (x:=x) (k:=k+1) (R:=R)
  have key:(k≤x.2∧∃ q,(r::R)[x.2-k]?=some q∧firstAt q.1 w 0=some x.1)↔(x.2=k∧firstAt r.1 w 0=some x.1)∨(k+1≤x.2∧∃ q,R[x.2-(k+1)]?=some q∧firstAt q.1 w 0=some x.1):=by
   constructor
   ·rintro⟨h1,q,h2,h3⟩
    by_cases e:x.2=k
    ·rw[e,Nat.sub_self] at h2
     cases h2
     exact .inl ⟨e,h3⟩
    ·refine .inr ⟨by lia,q,?_,h3⟩
     rw[show x.2-k=(x.2-(k+1))+1 by lia] at h2
     exact h2
   ·rintro (⟨e,h⟩ | ⟨h1,q,h2,h3⟩)
    ·exact⟨by lia,r,by rw[e,Nat.sub_self]; rfl,h⟩
    ·refine⟨by lia,q,?_,h3⟩
     rw[show x.2-k=(x.2-(k+1))+1 by lia]
     exact h2
  rw[key,← ih]
  rw[show candW w k (r::R)=(match firstAt r.1 w 0 with | some p=>(p,k)::candW w (k+1) R | none=>candW w (k+1) R) from rfl]
  cases hf:firstAt r.1 w 0 with
  |none =>
   constructor
   ·exact .inr
   ·rintro (⟨-,h⟩ | h)
    ·cases h
    ·exact h
  |some p =>
   rw[List.mem_cons]
   constructor
   ·rintro (h | h)
    ·rw[h]; exact .inl ⟨rfl,rfl⟩
    ·exact .inr h
   ·rintro (⟨e,h⟩ | h)
    ·cases h
     exact .inl (Prod.ext rfl e)
    ·exact .inr h
theorem first_stands {l w:W}(hl:l≠[]){p:Nat}(h:firstAt l w 0=some p):stands l w p=true∧∀ i,stands l w i=true→p≤i:=by
 obtain⟨-,-,e⟩:=allAt_first h
 constructor
 ·exact (mem_allAt hl).mp (by rw[e]; exact List.mem_cons_self)
 ·intro i hi
  have hm:=(mem_allAt hl).mpr hi
  rw[e] at hm
  rcases List.mem_cons.mp hm with z | z
  ·lia
  ·unfold allAt at z
   have:=(List.mem_range'_1.mp (List.mem_filter.mp z).1).1
   lia
theorem first_any {l w:W}(hl:l≠[]){i:Nat}(h:stands l w i=true):∃ p,firstAt l w 0=some p:=by
 cases e:firstAt l w 0 with
 |some p=>exact⟨p,rfl⟩
 |none =>
  have:=(mem_allAt hl).mpr h
  rw[allAt_none e] at this
  cases this
instance (a b:Nat×Nat):Decidable (LtP a b):=by unfold LtP; infer_instance
def minP (b:Nat×Nat):List (Nat×Nat)→Nat×Nat
 |[]=>b
 |t::r=>if LtP t b then minP t r else minP b r
theorem LtP.trans {a b c:Nat×Nat}(h:LtP a b)(h':LtP b c):LtP a c:=by unfold LtP at *; lia
theorem LtP.irr {a:Nat×Nat}:¬ LtP a a:=by unfold LtP; lia
theorem LtP.neg {a b c:Nat×Nat}(h:¬ LtP a b)(h':¬ LtP b c):¬ LtP a c:=by unfold LtP at *; lia
theorem min_spec:∀ (l:List (Nat×Nat)) (b:Nat×Nat),minP b l∈b::l∧∀ y∈b::l,¬ LtP y (minP b l)
 |[],b=>⟨List.mem_cons_self,fun y h=>by rw[List.mem_singleton.mp h]; exact LtP.irr⟩
 |t::r,b=>by
  unfold minP
  by_cases h:LtP t b
  ·rw[if_pos h]
   obtain⟨h1,h2⟩:=min_spec r t
   refine⟨List.mem_cons_of_mem _ h1,fun y hy=>?_⟩
   rcases List.mem_cons.mp hy with rfl | hy
   ·intro z
    exact h2 t List.mem_cons_self (h.trans z)
   ·exact h2 y hy
  ·rw[if_neg h]
   obtain⟨h1,h2⟩:=min_spec r b
   refine⟨?_,fun y hy=>?_⟩
   ·rcases List.mem_cons.mp h1 with q | q
    ·rw[q]; exact List.mem_cons_self
    ·exact List.mem_cons_of_mem _ (List.mem_cons_of_mem _ q)
   ·rcases List.mem_cons.mp hy with rfl | hy
    ·exact h2 _ List.mem_cons_self
    ·rcases List.mem_cons.mp hy with rfl | hy
     ·exact LtP.neg h (h2 b List.mem_cons_self)
     ·exact h2 y (List.mem_cons_of_mem _ hy)
theorem lt_pr (a b:Nat×Nat):oLt (prTh a) (prTh b)=some (.bl (decide (LtP a b))):=by
 show (HT.lexK [.inl (a.1:Int),.inl (a.2:Int)] [.inl (b.1:Int),.inl (b.2:Int)]).map Th.bl=_
 unfold HT.lexK HT.lexK HT.lexK
 have e:∀ z:Bool,(z=true↔LtP a b)→(some z).map Th.bl=some (.bl (decide (LtP a b))):=fun z hz=>by
  by_cases q:LtP a b
  ·rw[decide_eq_true q,hz.mpr q]; rfl
  ·rw[decide_eq_false q]
   cases z with
   |false=>rfl
   |true=>exact absurd (hz.mp rfl) q
 by_cases h1:(a.1:Int)=(b.1:Int)
 ·rw[if_pos h1]
  by_cases h2:(a.2:Int)=(b.2:Int)
  ·rw[if_pos h2]
   exact e false (by unfold LtP; simp; lia)
  ·rw[if_neg h2]
   exact e _ (by unfold LtP; simp; lia)
 ·rw[if_neg h1]
  exact e _ (by unfold LtP; simp; lia)
theorem minD_pr:∀ (l:List (Nat×Nat)) (b:Nat×Nat),minD (prTh b) (l.map prTh)=some (prTh (minP b l))
 |[],b=>rfl
 |t::r,b=>by
  rw[List.map_cons,minD,lt_pr]
  unfold minP
  by_cases h:LtP t b
  ·rw[decide_eq_true h,if_pos h]; exact minD_pr r t
  ·rw[decide_eq_false h,if_neg h]; exact minD_pr r b
theorem head_cand {R:List Ru}(hR:∀ r∈R,r.1≠[])(w:W):minDef .non ((candW w 0 R).map prTh)=some (match (placesW R w).head? with | some x=>prTh x | none=>.non):=by
 have mc:∀ {x:Nat×Nat},x∈candW w 0 R↔∃ r,R[x.2]?=some r∧firstAt r.1 w 0=some x.1:=fun {x}=>by
  rw[mem_cand,Nat.sub_zero]
  exact⟨fun h=>h.2,fun h=>⟨Nat.zero_le _,h⟩⟩
 have st:∀ {x:Nat×Nat},x∈candW w 0 R→x∈placesW R w:=fun {x} hx=>by
  obtain⟨r,h1,h2⟩:=mc.mp hx
  exact (mem_places hR).mpr ⟨r,h1,(first_stands (hR r (List.mem_of_getElem? h1)) h2).1⟩
 have ca:∀ {x:Nat×Nat},x∈placesW R w→∃ y∈candW w 0 R,y.2=x.2∧y.1≤x.1:=fun {x} hx=>by
  obtain⟨r,h1,h2⟩:=(mem_places hR).mp hx
  have hr:=hR r (List.mem_of_getElem? h1)
  obtain⟨p,hp⟩:=first_any hr h2
  exact⟨(p,x.2),mc.mpr ⟨r,h1,hp⟩,rfl,(first_stands hr hp).2 _ h2⟩
 have rise:=places_rise R w
 cases hc:candW w 0 R with
 |nil =>
  cases hp:placesW R w with
  |nil=>rfl
  |cons x l =>
   obtain⟨y,hy,-⟩:=ca (show x∈placesW R w by rw[hp]; exact List.mem_cons_self)
   rw[hc] at hy
   cases hy
 |cons b l =>
  rw[List.map_cons]
  show minD (prTh b) (l.map prTh)=_
  rw[minD_pr]
  obtain⟨m1,m2⟩:=min_spec l b
  rw[← hc] at m1 m2
  cases hp:placesW R w with
  |nil =>
   have:=st m1
   rw[hp] at this
   cases this
  |cons x t =>
   have hx:x∈placesW R w:=by rw[hp]; exact List.mem_cons_self
   have e:minP b l=x:=by
    have hm:=st m1
    rw[hp] at hm
    rcases List.mem_cons.mp hm with q | q
    ·exact q
    ·rw[hp] at rise
     have lt:LtP x (minP b l):=(List.pairwise_cons.mp rise).1 _ q
     obtain⟨y,hy,y2,y1⟩:=ca hx
     exact absurd (show LtP y (minP b l) by unfold LtP at *; lia) (m2 y hy)
   rw[e]
   rfl
inductive Down (R:List Ru):W→W→Prop where
 |stop {w:W} (h:firstW R w=none):Down R w w
 |go {w y z:W} (h:firstW R w=some y) (r:Down R y z):Down R w z
theorem Down.det {R:List Ru}{w y z:W}(h:Down R w y)(h':Down R w z):y=z:=by
 induction h with
 |stop e=>cases h' with
  |stop=>rfl
  |go e'=>rw[e] at e'; cases e'
 |go e _ ih=>cases h' with
  |stop e'=>rw[e] at e'; cases e'
  |go e' r'=>rw[e] at e'; cases e'; exact ih r'
end L2
namespace K22
open PySem PySem.Spec PyProof.Rows L2
noncomputable section
def b_l_drawn:FS:=(fSeq (fSet 2 (f2 oMod (f2 oTimes (f2 oPlus (f2 oPlus (fVarB 0) (f2 oTimes (fC (.int 104729)) (fVarB 1))) (fC (.int 17))) (fC (.int 69621))) (fC (.int 2147483647))))
 (fRet (f2 oMod (f2 oPlus (f2 oPlus (f2 oTimes (fVarB 2) (fVarB 2)) (f2 oTimes (fC (.int 3)) (fVarB 2))) (fVarB 1)) (fC (.int 2147483629)))))
def phi_l_drawn:List Th→Option Th:=runD 2 3 b_l_drawn
def b_l_tame:FS:=(fSeq (fOwn 2 (fSlF (fC (.lst [(.tup [(.str ("ba":Str)),(.str ("ab":Str))]),(.tup [(.str ("ca":Str)),(.str ("ac":Str))]),(.tup [(.str ("cb":Str)),(.str ("bc":Str))])])) fNoPart (fPart (f2 oSub (f2 oTimes (fC (.int 2)) (fCB oLen (fCons (fVarB 1) fNil))) (fC (.int 3))))))
 (fSeq (fIf (fTest (f2 oEq (f2 oMod (fVarB 0) (fC (.int 2))) (fC (.int 1)))) (fOwn 2 (fSlF (fVarB 2) fNoPart (fPart (f2 oMod (f2 oDiv (fVarB 0) (fC (.int 2))) (fC (.int 2)))))) fNext)
 (fSeq (fFor (fEnum (fVar 1)) (gPair 3 4) (fSeq (fSet 5 (fCall phi_l_drawn (fCons (fVar 0) (fCons (fVar 3) fNil))))
 (fIf (fTest (f2 oGt (f2 oMod (fVarB 5) (fC (.int 3))) (fC (.int 0)))) (fAppend 2 (fTup (fCons (f2 oTimes (fVarB 4) (f2 oPlus (fC (.int 2)) (f2 oMod (f2 oDiv (fVarB 5) (fC (.int 3))) (fC (.int 2))))) (fCons (f2 oTimes (fVarB 4) (f2 oMod (f2 oDiv (fVarB 5) (fC (.int 6))) (fC (.int 2)))) fNil)))) fNext)))
 (fRet (fVarB 2)))))
def phi_l_tame:List Th→Option Th:=runD 2 6 b_l_tame
def b_l_word:FS:=(fSeq (fSet 3 (fC (.str ("":Str))))
 (fSeq (fFor (fRange1 (f2 oMod (fVarB 0) (f2 oPlus (fVarB 2) (fC (.int 1))))) (gVar 4) (fSet 3 (f2 oPlus (fVarB 3) (f2 oIx (fVarB 1) (f2 oMod (f2 oDiv (fCall phi_l_drawn (fCons (fVar 0) (fCons (fVar 4) fNil))) (fC (.int 8))) (fCB oLen (fCons (fVarB 1) fNil)))))))
 (fRet (fVarB 3))))
def phi_l_word:List Th→Option Th:=runD 3 5 b_l_word
def b_l_less:FS:=(fRet (f2 oLt (fTup (fCons (fCB oLen (fCons (fVarB 0) fNil)) (fCons (fVar 0) fNil))) (fTup (fCons (fCB oLen (fCons (fVarB 1) fNil)) (fCons (fVar 1) fNil)))))
def phi_l_less:List Th→Option Th:=runD 2 2 b_l_less
def b_l_rule:FS:=(fSeq (fSet 2 (f2 oPlus (fCall phi_l_word (fCons (f2 oPlus (f2 oPlus (f2 oTimes (fC (.int 3)) (f2 oDiv (fVarB 0) (fC (.int 4)))) (fC (.int 1))) (f2 oMod (fVarB 0) (fC (.int 3)))) (fCons (fVar 1) (fCons (fC (.int 2)) fNil)))) (f2 oIx (fVarB 1) (f2 oMod (f2 oDiv (fVarB 0) (fC (.int 12))) (fCB oLen (fCons (fVarB 1) fNil))))))
 (fSeq (fIf (fTest (f2 oEq (f2 oMod (f2 oDiv (fVarB 0) (fC (.int 48))) (fC (.int 6))) (fC (.int 1)))) (fSet 2 (fSl (f2 oTimes (fVarB 2) (fC (.int 4))) fNoPart (fPart (fC (.int 4))))) fNext)
 (fSeq (fSet 3 (fCall phi_l_word (fCons (fCall phi_l_drawn (fCons (fVar 0) (fCons (fC (.int 50)) fNil))) (fCons (fVar 1) (fCons (fCB oLen (fCons (fVarB 2) fNil)) fNil)))))
 (fSeq (fIf (fNot (fTest (fCall phi_l_less (fCons (fVar 3) (fCons (fVar 2) fNil))))) (fSet 3 (fSl (fVarB 3) (fPart (fC (.int 1))) (fPart (fCB oLen (fCons (fVarB 2) fNil))))) fNext)
 (fRet (fTup (fCons (fVar 2) (fCons (fVar 3) fNil))))))))
def phi_l_rule:List Th→Option Th:=runD 2 4 b_l_rule
def b_l_rules:FS:=(fSeq (fSet 1 (f2 oIx (fC (.tup [(.str ("ab":Str)),(.str ("abc":Str))])) (f2 oMod (f2 oDiv (fVarB 0) (fC (.int 4))) (fC (.int 2)))))
 (fSeq (fSet 2 (fCall phi_l_tame (fCons (f2 oDiv (fVarB 0) (fC (.int 8))) (fCons (fVar 1) fNil))))
 (fSeq (fIf (fTest (f2 oGt (f2 oMod (fVarB 0) (fC (.int 4))) (fC (.int 1)))) (fSet 2 (fLst (fComp g1 (fRange1 (f2 oMod (f2 oDiv (fVarB 0) (fC (.int 8))) (fC (.int 5)))) fTrue (fCall phi_l_rule (fCons (fCall phi_l_drawn (fCons (fVar 1) (fCons (f2 oPlus (fC (.int 9)) (fVarB 0)) fNil))) (fCons (fVar 2) fNil)))))) (fIf (fTest (f2 oEq (f2 oMod (fVarB 0) (fC (.int 4))) (fC (.int 1)))) (fSet 2 (f2 oPlus (fVarB 2) (fLst (fList (fCons (fCall phi_l_rule (fCons (fCall phi_l_drawn (fCons (fVar 0) (fCons (fC (.int 9)) fNil))) (fCons (fVar 1) fNil))) fNil))))) fNext))
 (fSeq (fSet 3 (f2 oMod (f2 oDiv (fVarB 0) (fC (.int 640))) (fC (.int 5))))
 (fRet (fCB oTuple (fCons (f2 oPlus (fSl (fVarB 2) (fPart (fVar 3)) fNoPart) (fSl (fVarB 2) fNoPart (fPart (fVar 3)))) fNil)))))))
def phi_l_rules:List Th→Option Th:=runD 1 4 b_l_rules
def b_overlay:FS:=(fRet (f2 oPlus (f2 oPlus (fSl (fVarB 0) fNoPart (fPart (fVar 2))) (fVarB 1)) (fSl (fVarB 0) (fPart (f2 oPlus (fVarB 2) (fCB oLen (fCons (fVarB 1) fNil)))) fNoPart)))
def phi_overlay:List Th→Option Th:=runD 3 3 b_overlay
def b_overlays:FS:=(fSeq (fSet 3 (fLst (fComp g1 (fRange2 (fVar 2) (fCB oLen (fCons (fVarB 0) fNil))) fTrue (fCall phi_overlay (fCons (fVar 1) (fCons (fVar 2) (fCons (fVar 0) fNil)))))))
 (fRet (fLst (fComp g1 (fItems (fVar 3)) (fTest (fM1 (fun z y=>some (.bl (Txt.startswith z y))) (fVarB 0) (fVarB 1))) (fVar 0)))))
def phi_overlays:List Th→Option Th:=runD 3 4 b_overlays
def b_clashes:FS:=(fSeq (fOwn 1 (fCL []))
 (fSeq (fFor (fEnum (fVar 0)) (gPair 2 3) (fFor (fEnum (fVar 0)) (gPair 4 5) (fExtend 1 (fCall phi_overlays (fCons (f2 oIx (fVarB 3) (fC (.int 0))) (fCons (f2 oIx (fVarB 5) (fC (.int 0))) (fCons (fIf (fTest (f2 oEq (fVarB 2) (fVarB 4))) (fC (.int 1)) (fC (.int 0))) fNil)))))))
 (fRet (fCB oTuple (fCons (fLst (fSortSet (fCons (fVarB 1) fNil))) fNil)))))
def phi_clashes:List Th→Option Th:=runD 1 6 b_clashes
def b_l_cell_at:FS:=(fSeq (fIf (fTest (f2 oLt (fVarB 1) (fCB oLen (fCons (fVarB 0) fNil)))) (fRet (f2 oIx (fVarB 0) (fVarB 1))) fNext)
 (fRet (fC (.int 0))))
def phi_l_cell_at:List Th→Option Th:=runD 2 2 b_l_cell_at
def b_l_mixed:FS:=(fSeq (fSet 2 (f2 oMod (f2 oTimes (f2 oPlus (f2 oPlus (fCall phi_l_cell_at (fCons (fVar 0) (fCons (fVar 1) fNil))) (f2 oTimes (fC (.int 7919)) (fVarB 1))) (fC (.int 1))) (fC (.int 48271))) (fC (.int 2147483647))))
 (fRet (f2 oMod (f2 oPlus (f2 oPlus (f2 oTimes (fVarB 2) (fVarB 2)) (f2 oTimes (fC (.int 7)) (fVarB 2))) (fVarB 1)) (fC (.int 2147483629)))))
def phi_l_mixed:List Th→Option Th:=runD 2 3 b_l_mixed
def b_l_clashes:FS:=(fSeq (fDNew 1)
 (fSeq (fFor (fRange1 (fCB oLen (fCons (fVarB 0) fNil))) (gVar 2) (fFor (fRange1 (fCB oLen (fCons (fVarB 0) fNil))) (gVar 3) (fSeq (fSet 4 (f2 oIx (f2 oIx (fVarB 0) (fVarB 2)) (fC (.int 0))))
 (fSeq (fSet 5 (f2 oIx (f2 oIx (fVarB 0) (fVarB 3)) (fC (.int 0))))
 (fFor (fRange1 (fCB oLen (fCons (fVarB 4) fNil))) (gVar 6) (fSeq (fSet 7 (fSl (fVarB 4) (fPart (fVar 6)) fNoPart))
 (fIf (fAndT (fOrT (fTest (f2 oNe (fVarB 2) (fVarB 3))) (fTest (f2 oGt (fVarB 6) (fC (.int 0))))) (fOrT (fTest (fM1 (fun z y=>some (.bl (Txt.startswith z y))) (fVarB 7) (fVarB 5))) (fTest (fM1 (fun z y=>some (.bl (Txt.startswith z y))) (fVarB 5) (fVarB 7))))) (fIf (fTest (f2 oGt (fCB oLen (fCons (fVarB 5) fNil)) (fCB oLen (fCons (fVarB 7) fNil)))) (fDPut 1 (f2 oPlus (fSl (fVarB 4) fNoPart (fPart (fVar 6))) (fVarB 5)) (fC (.bl true))) (fDPut 1 (fVarB 4) (fC (.bl true)))) fNext)))))))
 (fRet (fCB oTuple (fCons (fLst (fSortD 1)) fNil)))))
def phi_l_clashes:List Th→Option Th:=runD 1 8 b_l_clashes
def b_rank:FS:=(fRet (fTup (fCons (fCB oLen (fCons (fVarB 0) fNil)) (fCons (fVar 0) fNil))))
def phi_rank:List Th→Option Th:=runD 1 1 b_rank
def b_put_right:FS:=(fRet (f2 oPlus (f2 oPlus (fSl (fVarB 1) fNoPart (fPart (fVar 2))) (f2 oIx (fVarB 0) (fC (.int 1)))) (fSl (fVarB 1) (fPart (f2 oPlus (fVarB 2) (fCB oLen (fCons (f2 oIx (fVarB 0) (fC (.int 0))) fNil)))) fNoPart)))
def phi_put_right:List Th→Option Th:=runD 3 3 b_put_right
def b_first_next:FS:=(fSeq (fSet 2 (fLst (fComp g2 (fEnum (fVar 0)) fTrue (fTup (fCons (fM1 (fun z y=>some (.int (Txt.find z y))) (fVarB 3) (f2 oIx (fVarB 1) (fC (.int 0)))) (fCons (fVar 0) fNil))))))
 (fSeq (fSet 3 (fMinD (fCons (fLst (fComp g1 (fItems (fVar 2)) (fTest (f2 oGe (f2 oIx (fVarB 0) (fC (.int 0))) (fC (.int 0)))) (fVar 0))) fNil) (fC .non)))
 (fRet (fIf (fTest (f2 (oIsN false) (fVarB 3) (fC .non))) (fC .non) (fCall phi_put_right (fCons (f2 oIx (fVarB 0) (f2 oIx (fVarB 3) (fC (.int 1)))) (fCons (fVar 1) (fCons (f2 oIx (fVarB 3) (fC (.int 0))) fNil))))))))
def phi_first_next:List Th→Option Th:=runD 2 4 b_first_next
def b_end:FS:=(fSeq (fSet 2 (fCall phi_first_next (fCons (fVar 0) (fCons (fVar 1) fNil))))
 (fSeq (fWhile (fTest (f2 (oIsN true) (fVarB 2) (fC .non))) (fSeq (fSet 1 (fVar 2))
 (fSet 2 (fCall phi_first_next (fCons (fVar 0) (fCons (fVar 1) fNil))))))
 (fRet (fVarB 1))))
def phi_end:List Th→Option Th:=runD 2 3 b_end
def b_places_of:FS:=(fSeq (fOwn 2 (fCL []))
 (fSeq (fSet 3 (fM1 (fun z y=>some (.int (Txt.find z y))) (fVarB 1) (fVarB 0)))
 (fSeq (fWhile (fTest (f2 oGe (fVarB 3) (fC (.int 0)))) (fSeq (fAppend 2 (fVar 3))
 (fSet 3 (fM2 (fun z y i=>some (.int (Txt.find3 z y i))) (fVarB 1) (fVarB 0) (f2 oPlus (fVarB 3) (fC (.int 1)))))))
 (fRet (fVarB 2)))))
def phi_places_of:List Th→Option Th:=runD 2 4 b_places_of
def b_places:FS:=(fSeq (fOwn 2 (fCL []))
 (fSeq (fFor (fEnum (fVar 0)) (gPair 3 4) (fExtend 2 (fLst (fComp g1 (fItems (fCall phi_places_of (fCons (f2 oIx (fVarB 4) (fC (.int 0))) (fCons (fVar 1) fNil)))) fTrue (fTup (fCons (fVar 0) (fCons (fVar 4) fNil)))))))
 (fRet (fCB oTuple (fCons (fLst (fSort2 (fCons (fVarB 2) fNil))) fNil)))))
def phi_places:List Th→Option Th:=runD 2 5 b_places
def b_nexts:FS:=(fRet (fCB oTuple (fCons (fLst (fSortSet (fCons (fLst (fComp g2 (fSeqI (fCall phi_places (fCons (fVar 0) (fCons (fVar 1) fNil)))) fTrue (fCall phi_put_right (fCons (f2 oIx (fVarB 2) (fVarB 1)) (fCons (fVar 3) (fCons (fVar 0) fNil)))))) fNil))) fNil)))
def phi_nexts:List Th→Option Th:=runD 2 2 b_nexts
def b_ends_of_nexts:FS:=(fRet (fCB oTuple (fCons (fLst (fSortSet (fCons (fLst (fComp g1 (fItems (fCall phi_nexts (fCons (fVar 0) (fCons (fVar 1) fNil)))) fTrue (fCall phi_end (fCons (fVar 1) (fCons (fVar 0) fNil))))) fNil))) fNil)))
def phi_ends_of_nexts:List Th→Option Th:=runD 2 2 b_ends_of_nexts
def b_doubt:FS:=(fSeq (fFor (fItems (fLst (fSortK phi_rank (fCons (fCall phi_clashes (fCons (fVar 0) fNil)) fNil)))) (gVar 1) (fIf (fTest (f2 oGt (fCB oLen (fCons (fCall phi_ends_of_nexts (fCons (fVar 0) (fCons (fVar 1) fNil))) fNil)) (fC (.int 1)))) (fRet (fVarB 1)) fNext))
 (fRet (fC .non)))
def phi_doubt:List Th→Option Th:=runD 1 2 b_doubt
def b_are_sure:FS:=(fRet (f2 (oIsN false) (fCall phi_doubt (fCons (fVar 0) fNil)) (fC .non)))
def phi_are_sure:List Th→Option Th:=runD 1 1 b_are_sure
def b_l_places:FS:=(fSeq (fSet 2 (fC (.lst [])))
 (fSeq (fFor (fRange1 (fCB oLen (fCons (fVarB 1) fNil))) (gVar 3) (fSet 2 (f2 oPlus (fVarB 2) (fLst (fComp g2 (fEnum (fVar 0)) (fTest (fM1 (fun z y=>some (.bl (Txt.startswith z y))) (fSl (fVarB 3) (fPart (fVar 5)) fNoPart) (f2 oIx (fVarB 1) (fC (.int 0))))) (fTup (fCons (fVar 5) (fCons (fVar 0) fNil))))))))
 (fRet (fVarB 2))))
def phi_l_places:List Th→Option Th:=runD 2 4 b_l_places
def b_l_changed:FS:=(fSeq (fAsg (f2 oIx (fVarB 0) (fVarB 3)) (gPair 4 5))
 (fRet (f2 oPlus (f2 oPlus (fSl (fVarB 1) fNoPart (fPart (fVar 2))) (fVarB 5)) (fSl (fVarB 1) (fPart (f2 oPlus (fVarB 2) (fCB oLen (fCons (fVarB 4) fNil)))) fNoPart))))
def phi_l_changed:List Th→Option Th:=runD 4 6 b_l_changed
def b_l_nexts:FS:=(fSeq (fOwn 2 (fCL []))
 (fSeq (fFor (fSeqI (fCall phi_l_places (fCons (fVar 0) (fCons (fVar 1) fNil)))) (gPair 3 4) (fAppend 2 (fCall phi_l_changed (fCons (fVar 0) (fCons (fVar 1) (fCons (fVar 3) (fCons (fVar 4) fNil)))))))
 (fRet (fLst (fSortSet (fCons (fVarB 2) fNil))))))
def phi_l_nexts:List Th→Option Th:=runD 2 5 b_l_nexts
def b_l_ends:FS:=(fSeq (fSet 2 (fLst (fList (fCons (fVar 1) fNil))))
 (fSeq (fOwn 3 (fCL []))
 (fSeq (fSet 4 (fC (.int 0)))
 (fSeq (fWhile (fTest (f2 oLt (fVarB 4) (fCB oLen (fCons (fVarB 2) fNil)))) (fSeq (fSet 5 (fCall phi_l_nexts (fCons (fVar 0) (fCons (f2 oIx (fVarB 2) (fVarB 4)) fNil))))
 (fSeq (fIf (fTest (f2 oEq (fVarB 5) (fC (.lst [])))) (fAppend 3 (f2 oIx (fVarB 2) (fVarB 4))) fNext)
 (fSeq (fSet 2 (f2 oPlus (fVarB 2) (fLst (fComp g1 (fItems (fVar 5)) (fTest (f2 (oIn true) (fVarB 0) (fVarB 3))) (fVar 0)))))
 (fSet 4 (f2 oPlus (fVarB 4) (fC (.int 1))))))))
 (fRet (fCB oTuple (fCons (fLst (fSort2 (fCons (fVarB 3) fNil))) fNil)))))))
def phi_l_ends:List Th→Option Th:=runD 2 6 b_l_ends
def b_law:FS:=(fSeq (fSet 1 (fCall phi_l_rules (fCons (fCall phi_l_mixed (fCons (fVar 0) (fCons (fC (.int 0)) fNil))) fNil)))
 (fSeq (fSet 2 (fCall phi_clashes (fCons (fVar 1) fNil)))
 (fSeq (fIf (fTest (f2 oNe (fVarB 2) (fCall phi_l_clashes (fCons (fVar 1) fNil)))) (fRet (fC (.bl false))) fNext)
 (fRet (f2 oEq (fCall phi_are_sure (fCons (fVar 1) fNil)) (f2 oEq (fLst (fComp g1 (fItems (fVar 2)) (fTest (f2 oGt (fCB oLen (fCons (fCall phi_l_ends (fCons (fVar 2) (fCons (fVar 0) fNil))) fNil)) (fC (.int 1)))) (fVar 0))) (fC (.lst []))))))))
def phi_law:List Th→Option Th:=runD 1 3 b_law
end
end K22
namespace L2
open PySem
theorem times_int {i j:Int}(h:(-(2 ^ 64)<i∧i<2 ^ 64)∨(-(2 ^ 64)<j∧j<2 ^ 64)):oTimes (.int i) (.int j)=some (.int (i*j)):=by
 simp only[oTimes,oMul,decide_eq_true h,if_true]
theorem mod_int {i j:Int}(h:0<j):oMod (.int i) (.int j)=some (.int (i%j)):=by
 simp only[oMod,decide_eq_true h,if_true]
theorem div_int {i j:Int}(h:0<j∧j<1073741824):oDiv (.int i) (.int j)=some (.int (i / j)):=by
 simp only[oDiv,decide_eq_true h,if_true]
theorem plus_int {i j:Int}:oPlus (.int i) (.int j)=some (.int (i+j)):=rfl
theorem sub_int {i j:Int}:oSub (.int i) (.int j)=some (.int (i-j)):=rfl
theorem plus_str {x y:Str}(h:x.length+y.length≤1000000):oPlus (.str x) (.str y)=some (.str (x++y)):=by
 simp only[oPlus,oAdd,smallN,decide_eq_true h,if_true]
theorem plus_lst {x y:List Th}(h:x.length+y.length≤1000000):oPlus (.lst x) (.lst y)=some (.lst (x++y)):=by
 simp only[oPlus,smallN,decide_eq_true h,if_true]
theorem len_str {x:Str}(h:x.length≤1000000):oLen [.str x]=some (.int x.length):=by
 simp only[oLen,smallN,decide_eq_true h,if_true]
theorem len_lst {x:List Th}:oLen [.lst x]=some (.int x.length):=rfl
theorem len_tup {x:List Th}:oLen [.tup x]=some (.int x.length):=rfl
theorem le_int {i j:Int}:oLe (.int i) (.int j)=some (.bl (decide (i≤j))):=rfl
theorem gt_int {i j:Int}:oGt (.int i) (.int j)=some (.bl (decide (j<i))):=rfl
theorem ge_int {i j:Int}:oGe (.int i) (.int j)=some (.bl (decide (j≤i))):=rfl
theorem lt_int {i j:Int}:oLt (.int i) (.int j)=some (.bl (decide (i<j))):=rfl
theorem eq_int {i j:Int}:oEq (.int i) (.int j)=some (.bl (i == j)):=by simp[oEq,dp,eqTh]
theorem ne_int {i j:Int}:oNe (.int i) (.int j)=some (.bl (!(i == j))):=by simp[oNe,dp,eqTh]
theorem eq_bl {i j:Bool}:oEq (.bl i) (.bl j)=some (.bl (i == j)):=by simp[oEq,dp,eqTh]
theorem eq_str {i j:Str}:oEq (.str i) (.str j)=some (.bl (i == j)):=by simp[oEq,dp,eqTh]
theorem isB_non_str:isB (tyTh (Th.non)) "str"=false:=rfl
theorem isB_bl_str (b:Bool):isB (tyTh (Th.bl b)) "str"=false:=rfl
theorem isB_int_str (i:Int):isB (tyTh (Th.int i)) "str"=false:=rfl
theorem isB_str_str (x:Str):isB (tyTh (Th.str x)) "str"=true:=rfl
theorem isB_tup_str (ts:List Th):isB (tyTh (Th.tup ts)) "str"=false:=rfl
theorem isB_lst_str (ts:List Th):isB (tyTh (Th.lst ts)) "str"=false:=rfl
theorem isB_non_tuple:isB (tyTh (Th.non)) "tuple"=false:=rfl
theorem isB_bl_tuple (b:Bool):isB (tyTh (Th.bl b)) "tuple"=false:=rfl
theorem isB_int_tuple (i:Int):isB (tyTh (Th.int i)) "tuple"=false:=rfl
theorem isB_str_tuple (x:Str):isB (tyTh (Th.str x)) "tuple"=false:=rfl
theorem isB_tup_tuple (ts:List Th):isB (tyTh (Th.tup ts)) "tuple"=true:=rfl
theorem isB_lst_tuple (ts:List Th):isB (tyTh (Th.lst ts)) "tuple"=false:=rfl
theorem isB_non_bool:isB (tyTh (Th.non)) "bool"=false:=rfl
theorem isB_bl_bool (b:Bool):isB (tyTh (Th.bl b)) "bool"=true:=rfl
theorem isB_int_bool (i:Int):isB (tyTh (Th.int i)) "bool"=false:=rfl
theorem isB_str_bool (x:Str):isB (tyTh (Th.str x)) "bool"=false:=rfl
theorem isB_tup_bool (ts:List Th):isB (tyTh (Th.tup ts)) "bool"=false:=rfl
theorem isB_lst_bool (ts:List Th):isB (tyTh (Th.lst ts)) "bool"=false:=rfl
theorem isB_non_int:isB (tyTh (Th.non)) "int"=false:=rfl
theorem isB_bl_int (b:Bool):isB (tyTh (Th.bl b)) "int"=true:=rfl
theorem isB_int_int (i:Int):isB (tyTh (Th.int i)) "int"=true:=rfl
theorem isB_str_int (x:Str):isB (tyTh (Th.str x)) "int"=false:=rfl
theorem isB_tup_int (ts:List Th):isB (tyTh (Th.tup ts)) "int"=false:=rfl
theorem isB_lst_int (ts:List Th):isB (tyTh (Th.lst ts)) "int"=false:=rfl
theorem isB_non_list:isB (tyTh (Th.non)) "list"=false:=rfl
theorem isB_bl_list (b:Bool):isB (tyTh (Th.bl b)) "list"=false:=rfl
theorem isB_int_list (i:Int):isB (tyTh (Th.int i)) "list"=false:=rfl
theorem isB_str_list (x:Str):isB (tyTh (Th.str x)) "list"=false:=rfl
theorem isB_tup_list (ts:List Th):isB (tyTh (Th.tup ts)) "list"=false:=rfl
theorem isB_lst_list (ts:List Th):isB (tyTh (Th.lst ts)) "list"=true:=rfl
theorem slen (x:Str):x.cps.toList.length=x.length:=by simp[Str.length]
theorem fSeq_nx {F G:FS}{d d':Sd}(h:F d=some (.nx d')):fSeq F G d=G d':=by unfold fSeq; rw[h]; rfl
theorem fFor_of {fi:FL}{g:FG}{F:FS}{d:Sd}{ts:List Th}(h:fi d=some ts):fFor fi g F d=forL g F ts d:=by unfold fFor; rw[h]; rfl
theorem runD_rt {n m:Nat}{b:FS}{Ts:List Th}{T:Th}(hn:Ts.length=n)(h:b (Ts.map (fun T=>some (Dv.th T))++List.replicate (m-Ts.length) none)=some (.rt T)):runD n m b Ts=some T:=by
 unfold runD; rw[if_pos hn,h]
theorem compL_map {fe:FD}{d:Sd}{p:Th→Th}:∀ {ts:List Th},(∀ t∈ts,fe (some (.th t)::d)=some (p t))→compL g1 fTrue fe d ts=some (ts.map p)
 |[],_=>rfl
 |t::r,h=>by
  have ih:=compL_map (fe:=fe) (d:=d) (p:=p) (ts:=r) fun x hx=>h x (List.mem_cons_of_mem _ hx)
  simp only[compL,g1,fTrue,Option.bind_some,List.cons_append,List.nil_append,if_true,h t List.mem_cons_self,ih,List.map_cons]
theorem compL_filter {ft:FB}{d:Sd}{q:Th→Bool}:∀ {ts:List Th},(∀ t∈ts,ft (some (.th t)::d)=some (q t))→compL g1 ft (fVar 0) d ts=some (ts.filter q)
 |[],_=>rfl
 |t::r,h=>by
  have ih:=compL_filter (ft:=ft) (d:=d) (q:=q) (ts:=r) fun x hx=>h x (List.mem_cons_of_mem _ hx)
  simp only[compL,g1,Option.bind_some,List.cons_append,List.nil_append,h t List.mem_cons_self,ih,List.filter_cons,fVar,List.getElem?_cons_zero]
  cases q t <;> simp
theorem fComp_map {fi:FL}{fe:FD}{d:Sd}{ts:List Th}{p:Th→Th}(h1:fi d=some ts)(h2:ts.length≤1000000)(h3:∀ t∈ts,fe (some (.th t)::d)=some (p t)):fComp g1 fi fTrue fe d=some (ts.map p):=by
 simp only[fComp,h1,Option.bind_some,if_pos h2,compL_map h3]
theorem fComp_filter {fi:FL}{ft:FB}{d:Sd}{ts:List Th}{q:Th→Bool}(h1:fi d=some ts)(h2:ts.length≤1000000)(h3:∀ t∈ts,ft (some (.th t)::d)=some (q t)):fComp g1 fi ft (fVar 0) d=some (ts.filter q):=by
 simp only[fComp,h1,Option.bind_some,if_pos h2,compL_filter h3]
theorem boolsOf_map (p:Th→Bool):∀ ts:List Th,boolsOf (ts.map fun t=>.bl (p t))=some (ts.map p)
 |[]=>rfl
 |t::r=>by simp only[List.map_cons,boolsOf,boolsOf_map p r,Option.map_some]
theorem oAll_map (p:Th→Bool)(ts:List Th):oAll false [.lst (ts.map fun t=>.bl (p t))]=some (.bl (ts.all p)):=by
 simp only[oAll,boolsOf_map,Option.map_some,Bool.false_eq_true,if_false,List.all_map]
 rfl
mutual
def good:Th→Bool
 |.str x=>decide (x.length≤1000000)
 |.tup ts=>goodL ts
 |.lst ts=>goodL ts
 |_=>true
def goodL:List Th→Bool
 |[]=>true
 |t::r=>good t&&goodL r
end
end L2
namespace L2
open PySem
theorem atI_nat' {α:Type}{xs:List α}{i:Int}(h0:0≤i)(h1:i<xs.length):atI xs i=xs[i.toNat]?:=by
 unfold atI ixN
 rw[if_pos h0,if_pos h1]; rfl
theorem ix_str' {x:Str}{i:Int}(h0:0≤i)(h1:i<x.length)(hx:x.length≤1000000):oIx (.str x) (.int i)=some (.str ⟨#[x.cps.toList.getD i.toNat 0]⟩):=by
 have hl:=slen x
 have h2:i.toNat<x.cps.toList.length:=by rw[hl]; lia
 simp only[oIx,smallN,decide_eq_true hx,if_true]
 rw[atI_nat' h0 (by rw[hl]; exact h1),List.getElem?_eq_getElem h2]
 simp[List.getD_eq_getElem?_getD,List.getElem?_eq_getElem h2]
theorem app_cps (x y:Str):(x++y).cps.toList=x.cps.toList++y.cps.toList:=by
 show (x.cps++y.cps).toList=_
 simp
theorem app_len (x y:Str):(x++y).length=x.length+y.length:=by
 rw[← slen,app_cps,List.length_append,slen,slen]
end L2
namespace L2
open PySem
theorem times_str {x:Str}{j:Int}(h0:0≤j)(h1:j≤1000000)(h2:x.length*j.toNat≤1000000):oTimes (.str x) (.int j)=some (.str (Txt.mul x j)):=by
 have h:0≤j∧j≤1000000∧x.length*j.toNat≤1000000:=⟨h0,h1,h2⟩
 simp only[oTimes,oMul,decide_eq_true h,if_true]
theorem rep_foldl (x:Array Nat):∀ (m:Nat) (acc:Array Nat),((List.replicate m x).foldl (·++·) acc).toList=acc.toList++(List.replicate m x.toList).flatten
 |0,acc=>by simp
 |m+1,acc=>by
  rw[List.replicate_succ,List.foldl_cons,rep_foldl x m,List.replicate_succ,List.flatten_cons,Array.toList_append,List.append_assoc]
theorem mul_cps {x:Str}{j:Int}(h0:0≤j):(Txt.mul x j).cps.toList=(List.replicate j.toNat x.cps.toList).flatten:=by
 unfold Txt.mul
 by_cases h1:j<1
 ·have:j=0:=by lia
  subst this
  rw[if_pos h1]; rfl
 ·rw[if_neg h1]
  by_cases h2:(j == 1||x.length == 0)=true
  ·rw[if_pos h2]
   simp only[Bool.or_eq_true,beq_iff_eq] at h2
   rcases h2 with h2 | h2
   ·subst h2; simp
   ·have:x.cps.toList=[]:=List.eq_nil_of_length_eq_zero (by rw[slen]; exact h2)
    rw[this]; simp
  ·rw[if_neg h2]
   rw[rep_foldl]; simp
theorem flat_len {α:Type}(l:List α)(m:Nat):(List.replicate m l).flatten.length=m*l.length:=len_rep l m
theorem flat_mem {α:Type}{l:List α}{m:Nat}{c:α}(h:c∈(List.replicate m l).flatten):c∈l:=by
 obtain⟨a,ha,hc⟩:=List.mem_flatten.mp h
 rw[(List.mem_replicate.mp ha).2] at hc
 exact hc
theorem cut_to {α:Type}(xs:List α){j:Int}(h:0≤j):cutL xs none (some j)=xs.take j.toNat:=by
 unfold cutL
 obtain⟨k,rfl⟩:∃ k:Nat,j=k:=⟨j.toNat,by lia⟩
 rw[HT.sIx_none,HT.sIx_nat,List.drop_zero,Nat.sub_zero,Int.toNat_natCast]
 rw[Nat.min_def]
 split
 ·rfl
 ·rw[List.take_length,List.take_of_length_le (by lia)]
theorem cut_from {α:Type}(xs:List α){i:Int}(h:0≤i):cutL xs (some i) none=xs.drop i.toNat:=by
 unfold cutL
 obtain⟨k,rfl⟩:∃ k:Nat,i=k:=⟨i.toNat,by lia⟩
 rw[HT.sIx_none,HT.sIx_nat,Int.toNat_natCast]
 rw[Nat.min_def]
 split
 ·rw[List.take_of_length_le (by simp)]
 ·rw[List.drop_length,List.drop_eq_nil_of_le (by lia)]; simp
theorem cut_mem {α:Type}{xs:List α}{lo hi:Option Int}{c:α}(h:c∈cutL xs lo hi):c∈xs:=List.mem_of_mem_drop (List.mem_of_mem_take h)
theorem sl_str' {x:Str}{lo hi:Option Int}(h:x.length≤1000000):oSl (.str x) lo hi=some (.str (cutS x lo hi)):=by
 simp only[oSl,smallN,decide_eq_true h,if_true]
theorem cutS_cps (x:Str)(lo hi:Option Int):(cutS x lo hi).cps.toList=cutL x.cps.toList lo hi:=by simp[cutS]
theorem cutS_len (x:Str)(lo hi:Option Int):(cutS x lo hi).length=(cutL x.cps.toList lo hi).length:=by rw[← slen,cutS_cps]
end L2
namespace L2
open PySem
theorem forL_inv {g:FG}{F:FS}(P:List Th→Sd→Prop)(step:∀ t r d,P (t::r) d→∃ d1 d2,g t d=some d1∧F d1=some (.nx d2)∧P r d2):∀ (ts:List Th) (d:Sd),P ts d→∃ d',forL g F ts d=some (.nx d')∧P [] d'
 |[],d,h=>⟨d,rfl,h⟩
 |t::r,d,h=>by
  obtain⟨d1,d2,e1,e2,h2⟩:=step t r d h
  obtain⟨d',e3,h3⟩:=forL_inv P step r d2 h2
  refine⟨d',?_,h3⟩
  rw[forL,e1,Option.bind_some,e2]
  exact e3
theorem compL_ex {fe:FD}{d:Sd}{P:Th→Prop}:∀ {ts:List Th},(∀ t∈ts,∃ y,fe (some (.th t)::d)=some y∧P y)→∃ ys,compL g1 fTrue fe d ts=some ys∧(∀ y∈ys,P y)∧ys.length=ts.length
 |[],_=>⟨[],rfl,fun _ h=>(nomatch h),rfl⟩
 |t::r,h=>by
  obtain⟨ys,e,hp,hl⟩:=compL_ex (fe:=fe) (d:=d) (P:=P) (ts:=r) fun x hx=>h x (List.mem_cons_of_mem _ hx)
  obtain⟨y,ey,py⟩:=h t List.mem_cons_self
  refine⟨y::ys,?_,fun z hz=>?_,by simp[hl]⟩
  ·simp only[compL,g1,fTrue,Option.bind_some,List.cons_append,List.nil_append,if_true,ey,e]
  ·rcases List.mem_cons.mp hz with rfl | hz
   ·exact py
   ·exact hp z hz
theorem fComp_ex {fi:FL}{fe:FD}{d:Sd}{ts:List Th}{P:Th→Prop}(h1:fi d=some ts)(h2:ts.length≤1000000)(h3:∀ t∈ts,∃ y,fe (some (.th t)::d)=some y∧P y):∃ ys,fComp g1 fi fTrue fe d=some ys∧(∀ y∈ys,P y)∧ys.length=ts.length:=by
 obtain⟨ys,e,hp,hl⟩:=compL_ex h3
 exact⟨ys,by simp only[fComp,h1,Option.bind_some,if_pos h2,e],hp,hl⟩
theorem numbered_mem:∀ {k:Nat} {ts:List Th} {x:Th},x∈numbered k ts→∃ (j:Nat) (t:Th),x=.tup [.int (j:Int),t]∧t∈ts
 |_,[],_,h=>(nomatch h)
 |k,t::r,x,h=>by
  rcases List.mem_cons.mp (show x∈Th.tup [.int (k:Int),t]::numbered (k+1) r from h) with rfl | h
  ·exact⟨k,t,rfl,List.mem_cons_self⟩
  ·obtain⟨j,y,e,hy⟩:=numbered_mem h
   exact⟨j,y,e,List.mem_cons_of_mem _ hy⟩
theorem sl_lst {ts:List Th}{lo hi:Option Int}:oSl (.lst ts) lo hi=some (.lst (cutL ts lo hi)):=rfl
end L2
namespace K22
open PySem L2
local macro_rules | `(tactic| walk_at "ev")=>`(tactic| simp (disch:=lia) only [runD,fSeq,fSet,fRet,fIf,fNext,f2,fVarB,fVar,fC,fCL,fCons,fNil,fCall,fCB,fTest,fNot,fAndT,fOrT,fAnd,fOr,fNotV,fNeg,fIsI,isB_non_str,isB_bl_str,isB_int_str,isB_str_str,isB_tup_str,isB_lst_str,isB_non_tuple,isB_bl_tuple,isB_int_tuple,isB_str_tuple,isB_tup_tuple,isB_lst_tuple,isB_non_bool,isB_bl_bool,isB_int_bool,isB_str_bool,isB_tup_bool,isB_lst_bool,isB_non_int,isB_bl_int,isB_int_int,isB_str_int,isB_tup_int,isB_lst_int,isB_non_list,isB_bl_list,isB_int_list,isB_str_list,isB_tup_list,isB_lst_list,fTup,fLst,fList,fitL,fPart,fNoPart,fSl,List.map,List.length,List.replicate,List.cons_append,List.nil_append,List.getElem?_cons_zero,List.getElem?_cons_succ,Nat.zero_add,Nat.reduceLeDiff,Option.bind_some,Option.map_some,Option.bind_none,Option.map_none,List.set_cons_zero,List.set_cons_succ,plus_int,sub_int,times_int,mod_int,div_int,len_lst,len_tup,len_str,oAll_map,le_int,gt_int,ge_int,lt_int,eq_int,ne_int,eq_bl,eq_str,Bool.not_true,Bool.not_false,fChain,if_true,if_false,Bool.false_eq_true,reduceIte,Nat.reduceAdd,Nat.reduceSub,Nat.reduceLeDiff,List.length_cons,List.length_nil])
def drawn (n k:Int):Int:=((n+104729*k+17)*69621%2147483647*((n+104729*k+17)*69621%2147483647)+3*((n+104729*k+17)*69621%2147483647)+k)%2147483629
theorem drawn_eq (n k:Int):phi_l_drawn [.int n,.int k]=some (.int (drawn n k)):=by
 unfold phi_l_drawn b_l_drawn
 walk_at "ev"
 rfl
def lessS (x y:Str):Bool:=decide (x.length<y.length∨(x.length=y.length∧x.cps.toList<y.cps.toList))
theorem oLt_key (x y:Str):oLt (.tup [.int x.length,.str x]) (.tup [.int y.length,.str y])=some (.bl (lessS x y)):=by
 simp only[oLt,keysOf,keyOf,Option.bind_some,Option.map_some,HT.lexK]
 congr 2
 unfold lessS
 by_cases h:(x.length:Int)=y.length
 ·have h':x.length=y.length:=by lia
  rw[if_pos h]
  by_cases e:x=y
  ·subst e
   rw[if_pos rfl]
   have:¬ (x.length<x.length∨(x.length=x.length∧x.cps.toList<x.cps.toList)):=by
    intro z
    rcases z with z | z
    ·lia
    ·exact List.lt_irrefl _ z.2
   simp[decide_eq_false this]
  ·rw[if_neg e]
   simp only[Option.map_some,Option.some.injEq,Th.bl.injEq,decide_eq_decide]
   constructor
   ·intro z; exact .inr ⟨h',z⟩
   ·rintro (z | z)
    ·lia
    ·exact z.2
 ·rw[if_neg h]
  simp only[Option.map_some,Option.some.injEq,Th.bl.injEq,decide_eq_decide]
  constructor
  ·intro z; exact .inl (by lia)
  ·rintro (z | z) <;> lia
theorem less_eq (x y:Str)(hx:x.length≤1000000)(hy:y.length≤1000000):phi_l_less [.str x,.str y]=some (.bl (lessS x y)):=by
 unfold phi_l_less b_l_less
 walk_at "ev"
 rw[oLt_key]; rfl
theorem signs_len (x:Str):(signs x).length=x.length:=by simp[signs,Str.length]
theorem cell_eq (ns:List Int)(k:Int)(hk:0≤k):∃ c,phi_l_cell_at [.lst (ns.map Th.int),.int k]=some (.int c):=by
 by_cases h:k<ns.length
 ·have h2:k.toNat<(ns.map Th.int).length:=by rw[List.length_map]; lia
  refine⟨ns[k.toNat]'(by lia),?_⟩
  have e:oIx (.lst (ns.map Th.int)) (.int k)=some (.int (ns[k.toNat]'(by lia))):=by
   simp only[oIx]
   rw[atI_nat' hk (by rw[List.length_map]; exact h),List.getElem?_eq_getElem h2,List.getElem_map]
  unfold phi_l_cell_at b_l_cell_at
  walk_at "ev"
  simp only[List.length_map,decide_eq_true h,if_true,e]
  rfl
 ·refine⟨0,?_⟩
  unfold phi_l_cell_at b_l_cell_at
  walk_at "ev"
  simp only[List.length_map,decide_eq_false h,if_false,Bool.false_eq_true]
  rfl
def mixC (c k:Int):Int:=((c+7919*k+1)*48271%2147483647*((c+7919*k+1)*48271%2147483647)+7*((c+7919*k+1)*48271%2147483647)+k)%2147483629
theorem mixed_eq (ns:List Int)(k:Int)(hk:0≤k):∃ r,0≤r∧r<2147483629∧phi_l_mixed [.lst (ns.map Th.int),.int k]=some (.int r):=by
 obtain⟨c,hc⟩:=cell_eq ns k hk
 refine⟨mixC c k,Int.emod_nonneg _ (by decide),Int.emod_lt_of_pos _ (by decide),?_⟩
 unfold phi_l_mixed b_l_mixed
 walk_at "ev"
 simp only[hc]
 walk_at "ev"
 rfl
def pick (n:Int)(le:Str)(k:Nat):Nat:=le.cps.toList.getD (drawn n k / 8%(le.length:Int)).toNat 0
def wordOf (n:Int)(le:Str)(m:Nat):Str:=⟨((List.range m).map (pick n le)).toArray⟩
theorem w_loop {n most:Int}{le:Str}(h1:0<le.length)(h2:le.length≤1000):∀ (ks:List Nat) (acc:Str) (x:Option Dv),acc.length+ks.length≤100000 →
  ∃ y,forL (gVar 4) (fSet 3 (f2 oPlus (fVarB 3) (f2 oIx (fVarB 1) (f2 oMod (f2 oDiv (fCall phi_l_drawn (fCons (fVar 0) (fCons (fVar 4) fNil))) (fC (.int 8))) (fCB oLen (fCons (fVarB 1) fNil)))))) (ks.map fun (k:Nat)=>Th.int (k:Int))
   [some (Dv.th (.int n)),some (Dv.th (.str le)),some (Dv.th (.int most)),some (Dv.th (.str acc)),x]=some (.nx [some (Dv.th (.int n)),some (Dv.th (.str le)),some (Dv.th (.int most)),some (Dv.th (.str ⟨(acc.cps.toList++ks.map (pick n le)).toArray⟩)),y])
 |[],acc,x,_=>⟨x,by simp[forL,str_mk]⟩
 |k::ks,acc,x,hz=>by
  have e1:=drawn_eq n k
  have hm:0≤drawn n k / 8%(le.length:Int)∧drawn n k / 8%(le.length:Int)<le.length:=⟨Int.emod_nonneg _ (by lia),Int.emod_lt_of_pos _ (by lia)⟩
  have e2:=ix_str' hm.1 hm.2 (by lia)
  have hl1:(⟨#[pick n le k]⟩:Str).length=1:=rfl
  simp only[List.length_cons] at hz
  have e3:=plus_str (x:=acc) (y:=⟨#[pick n le k]⟩) (by rw[hl1]; lia)
  have hl2:(acc++(⟨#[pick n le k]⟩:Str)).length=acc.length+1:=by rw[app_len,hl1]
  obtain⟨y,hy⟩:=w_loop (n:=n) (most:=most) h1 h2 ks (acc++⟨#[pick n le k]⟩) (some (Dv.th (.int k))) (by rw[hl2]; lia)
  refine⟨y,?_⟩
  rw[List.map_cons,forL]
  simp only[gVar,List.set_cons_zero,List.set_cons_succ,Option.bind_some]
  have hs:fSet 3 (f2 oPlus (fVarB 3) (f2 oIx (fVarB 1) (f2 oMod (f2 oDiv (fCall phi_l_drawn (fCons (fVar 0) (fCons (fVar 4) fNil))) (fC (.int 8))) (fCB oLen (fCons (fVarB 1) fNil))))) [some (Dv.th (.int n)),some (Dv.th (.str le)),some (Dv.th (.int most)),some (Dv.th (.str acc)),some (Dv.th (.int k))]
   =some (.nx [some (Dv.th (.int n)),some (Dv.th (.str le)),some (Dv.th (.int most)),some (Dv.th (.str (acc++⟨#[pick n le k]⟩))),some (Dv.th (.int k))]):=by
   walk_at "ev"
   simp only[e1]
   walk_at "ev"
   simp only[e2]
   walk_at "ev"
   rw[show le.cps.toList.getD (drawn n ↑k / 8%↑le.length).toNat 0=pick n le k from rfl,e3]
   rfl
  rw[hs]
  simp only[Option.bind_some]
  rw[hy,app_cps]
  simp
theorem upTo_eq (n:Nat):L2.upTo n=(List.range n).map fun (k:Nat)=>Th.int (k:Int):=rfl
theorem word_eq {n most:Int}{le:Str}(h1:0<le.length)(h2:le.length≤1000)(h3:0≤most)(h4:most≤1000):phi_l_word [.int n,.str le,.int most]=some (.str (wordOf n le (n%(most+1)).toNat)):=by
 unfold phi_l_word b_l_word
 have hm:0≤n%(most+1)∧n%(most+1)<most+1:=⟨Int.emod_nonneg _ (by lia),Int.emod_lt_of_pos _ (by lia)⟩
 obtain⟨y,hy⟩:=w_loop (n:=n) (most:=most) h1 h2 (List.range (n%(most+1)).toNat) "" none (by rw[List.length_range]; show 0+_≤_; lia)
 refine runD_rt rfl ?_
 refine (fSeq_nx (d':=[some (Dv.th (.int n)),some (Dv.th (.str le)),some (Dv.th (.int most)),some (Dv.th (.str "")),none]) rfl).trans ?_
 have hr:fRange1 (f2 oMod (fVarB 0) (f2 oPlus (fVarB 2) (fC (.int 1)))) [some (Dv.th (.int n)),some (Dv.th (.str le)),some (Dv.th (.int most)),some (Dv.th (.str "")),none]=some (L2.upTo (n%(most+1)).toNat):=by
  unfold fRange1
  walk_at "ev"
  rw[if_pos (by lia)]
 refine (fSeq_nx ((fFor_of hr).trans hy)).trans ?_
 rfl
def AbcL (l:List Nat):Prop:=∀ c∈l,c=97∨c=98∨c=99
def Abc (x:Str):Prop:=AbcL x.cps.toList
structure RuleOK (l r:Str):Prop where
 la:Abc l
 ra:Abc r
 l1:1≤l.length
 l6:l.length≤6
 less:lessS r l=true
theorem RuleOK.rl {l r:Str}(h:RuleOK l r):r.length≤l.length:=by
 have:=of_decide_eq_true h.less
 lia
inductive Lets:Str→Prop where
 |ab:Lets "ab"
 |abc:Lets "abc"
theorem Lets.abcS {le:Str}(h:Lets le):Abc le:=by
 cases h <;> (intro c hc; revert c; decide +kernel)
theorem Lets.len {le:Str}(h:Lets le):2≤le.length∧le.length≤3:=by
 cases h <;> decide +kernel
theorem pick_abc {le:Str}(h:Lets le)(n:Int)(k:Nat):pick n le k=97∨pick n le k=98∨pick n le k=99:=by
 have hl:=h.len
 have hm:0≤drawn n k / 8%(le.length:Int)∧drawn n k / 8%(le.length:Int)<le.length:=⟨Int.emod_nonneg _ (by lia),Int.emod_lt_of_pos _ (by lia)⟩
 have h2:(drawn n k / 8%(le.length:Int)).toNat<le.cps.toList.length:=by rw[slen]; lia
 unfold pick
 rw[List.getD_eq_getElem?_getD,List.getElem?_eq_getElem h2]
 exact h.abcS _ (List.getElem_mem h2)
theorem wordOf_len (n:Int)(le:Str)(m:Nat):(wordOf n le m).length=m:=by simp[wordOf,Str.length]
theorem wordOf_abc {le:Str}(h:Lets le)(n:Int)(m:Nat):Abc (wordOf n le m):=by
 intro c hc
 have:c∈(List.range m).map (pick n le):=by simpa [wordOf] using hc
 obtain⟨k,_,rfl⟩:=List.mem_map.mp this
 exact pick_abc h n k
theorem AbcL.app {a b:List Nat}(h:AbcL a)(h':AbcL b):AbcL (a++b):=fun c hc=>(List.mem_append.mp hc).elim (h c) (h' c)
theorem Abc.app {a b:Str}(h:Abc a)(h':Abc b):Abc (a++b):=by unfold Abc; rw[app_cps]; exact AbcL.app h h'
theorem Abc.cut {a:Str}(h:Abc a)(lo hi:Option Int):Abc (cutS a lo hi):=fun c hc=>h c (by rw[cutS_cps] at hc; exact cut_mem hc)
theorem Abc.mul {a:Str}(h:Abc a){j:Int}(h0:0≤j):Abc (Txt.mul a j):=fun c hc=>h c (by rw[mul_cps h0] at hc; exact flat_mem hc)
theorem one_abc {c:Nat}(h:c=97∨c=98∨c=99):Abc ⟨#[c]⟩:=fun d hd=>by
 have:d=c:=by simpa using hd
 subst this; exact h
theorem less_of_short {x y:Str}(h:x.length<y.length):lessS x y=true:=decide_eq_true (.inl h)
theorem rule_eq {le:Str}(L:Lets le)(n:Int):∃ l r,phi_l_rule [.int n,.str le]=some (.tup [.str l,.str r])∧RuleOK l r:=by
 have hl:=L.len
 have w1:=word_eq (n:=3*(n / 4)+1+n%3) (most:=2) (le:=le) (by lia) (by lia) (by decide) (by decide)
 generalize hx:wordOf (3*(n / 4)+1+n%3) le ((3*(n / 4)+1+n%3)%(2+1)).toNat=x at w1
 have xa:Abc x:=by rw[← hx]; exact wordOf_abc L _ _
 have xl:x.length≤2:=by rw[← hx,wordOf_len]; lia
 have hm:0≤n / 12%(le.length:Int)∧n / 12%(le.length:Int)<le.length:=⟨Int.emod_nonneg _ (by lia),Int.emod_lt_of_pos _ (by lia)⟩
 have i1:=ix_str' hm.1 hm.2 (by lia)
 have ca:le.cps.toList.getD (n / 12%(le.length:Int)).toNat 0=97∨le.cps.toList.getD (n / 12%(le.length:Int)).toNat 0=98∨le.cps.toList.getD (n / 12%(le.length:Int)).toNat 0=99:=by
  have h2:(n / 12%(le.length:Int)).toNat<le.cps.toList.length:=by rw[slen]; lia
  rw[List.getD_eq_getElem?_getD,List.getElem?_eq_getElem h2]
  exact L.abcS _ (List.getElem_mem h2)
 generalize le.cps.toList.getD (n / 12%(le.length:Int)).toNat 0=c at i1 ca
 have hc1:(⟨#[c]⟩:Str).length=1:=rfl
 have p1:=plus_str (x:=x) (y:=⟨#[c]⟩) (by rw[hc1]; lia)
 have ya:Abc (x++⟨#[c]⟩):=xa.app (one_abc ca)
 have yl:(x++(⟨#[c]⟩:Str)).length=x.length+1:=by rw[app_len,hc1]
 generalize x++(⟨#[c]⟩:Str)=y at p1 ya yl
 have left:∃ l,fIf (fTest (f2 oEq (f2 oMod (f2 oDiv (fVarB 0) (fC (.int 48))) (fC (.int 6))) (fC (.int 1)))) (fSet 2 (fSl (f2 oTimes (fVarB 2) (fC (.int 4))) fNoPart (fPart (fC (.int 4))))) fNext
   [some (Dv.th (.int n)),some (Dv.th (.str le)),some (Dv.th (.str y)),none]=some (.nx [some (Dv.th (.int n)),some (Dv.th (.str le)),some (Dv.th (.str l)),none])∧Abc l∧1≤l.length∧l.length≤6:=by
  by_cases h:n / 48%6=1
  ·have t1:=times_str (x:=y) (j:=4) (by decide) (by decide) (by show y.length*4≤_; lia)
   have ml:(Txt.mul y 4).length=4*y.length:=by
    rw[← slen,mul_cps (by decide),flat_len,slen]; rfl
   have s1:=sl_str' (x:=Txt.mul y 4) (lo:=none) (hi:=some 4) (by lia)
   refine⟨cutS (Txt.mul y 4) none (some 4),?_,(ya.mul (by decide)).cut _ _,?_,?_⟩
   ·walk_at "ev"
    simp only[h,BEq.rfl,if_true,t1,Option.bind_some,s1]
    rfl
   ·rw[cutS_len,cut_to _ (by lia),List.length_take,slen,ml]; lia
   ·rw[cutS_len,cut_to _ (by lia),List.length_take]; lia
  ·refine⟨y,?_,ya,by lia,by lia⟩
   walk_at "ev"
   have:(n / 48%6 == 1)=false:=by simpa using h
   simp only[this,Bool.false_eq_true,if_false]
 obtain⟨l,hleft,la,l1,l6⟩:=left
 have d1:=drawn_eq n 50
 have w2:=word_eq (n:=drawn n 50) (most:=l.length) (le:=le) (by lia) (by lia) (by lia) (by lia)
 generalize hz:wordOf (drawn n 50) le (drawn n 50%((l.length:Int)+1)).toNat=z at w2
 have za:Abc z:=by rw[← hz]; exact wordOf_abc L _ _
 have zl:z.length≤l.length:=by
  rw[← hz,wordOf_len]
  have:=Int.emod_lt_of_pos (drawn n 50) (b:=(l.length:Int)+1) (by lia)
  lia
 have ls:=less_eq z l (by lia) (by lia)
 have right:∃ r,fIf (fNot (fTest (fCall phi_l_less (fCons (fVar 3) (fCons (fVar 2) fNil))))) (fSet 3 (fSl (fVarB 3) (fPart (fC (.int 1))) (fPart (fCB oLen (fCons (fVarB 2) fNil))))) fNext
   [some (Dv.th (.int n)),some (Dv.th (.str le)),some (Dv.th (.str l)),some (Dv.th (.str z))]=some (.nx [some (Dv.th (.int n)),some (Dv.th (.str le)),some (Dv.th (.str l)),some (Dv.th (.str r))])∧Abc r∧lessS r l=true:=by
  cases hs:lessS z l with
  |true =>
   rw[hs] at ls
   refine⟨z,?_,za,hs⟩
   walk_at "ev"
   simp only[ls]
   walk_at "ev"
  |false =>
   rw[hs] at ls
   have s1:=sl_str' (x:=z) (lo:=some 1) (hi:=some (l.length:Int)) (by lia)
   refine⟨cutS z (some 1) (some (l.length:Int)),?_,za.cut _ _,?_⟩
   ·walk_at "ev"
    simp only[ls]
    walk_at "ev"
    simp only[s1]
    rfl
   ·refine less_of_short ?_
    rw[cutS_len]
    have e1:HT.sIx z.cps.toList.length 0 (some 1)=min 1 z.length:=by rw[slen]; exact HT.sIx_nat _ _ 1
    have e2:(cutL z.cps.toList (some 1) (some (l.length:Int))).length≤z.length-min 1 z.length:=by
     unfold cutL
     rw[List.length_take,List.length_drop,e1,slen]
     exact Nat.min_le_right _ _
    have:0<z.length∨z.length=0:=by lia
    rcases this with h | h
    ·have:min 1 z.length=1:=by lia
     lia
    ·exfalso
     have:lessS z l=true:=less_of_short (by lia)
     rw[this] at hs; cases hs
 obtain⟨r,hright,ra,hless⟩:=right
 refine⟨l,r,?_,la,ra,l1,l6,hless⟩
 unfold phi_l_rule b_l_rule
 refine runD_rt rfl ?_
 refine (fSeq_nx (d':=[some (Dv.th (.int n)),some (Dv.th (.str le)),some (Dv.th (.str y)),none]) ?_).trans ?_
 ·walk_at "ev"
  simp only[w1]
  walk_at "ev"
  simp only[i1]
  walk_at "ev"
  simp only[p1]
  rfl
 refine (fSeq_nx hleft).trans ?_
 refine (fSeq_nx (d':=[some (Dv.th (.int n)),some (Dv.th (.str le)),some (Dv.th (.str l)),some (Dv.th (.str z))]) ?_).trans ?_
 ·walk_at "ev"
  simp only[d1]
  walk_at "ev"
  simp only[w2]
  rfl
 refine (fSeq_nx hright).trans ?_
 rfl
def PairOK (t:Th):Prop:=∃ l r,t=.tup [.str l,.str r]∧RuleOK l r
def tame0:List Th:=[(.tup [(.str ("ba":Str)),(.str ("ab":Str))]),(.tup [(.str ("ca":Str)),(.str ("ac":Str))]),(.tup [(.str ("cb":Str)),(.str ("bc":Str))])]
theorem abc_dec {x:Str}(h:(x.cps.toList.all fun c=>c == 97||c == 98||c == 99)=true):Abc x:=fun c hc=>by
 have:=List.all_eq_true.mp h c hc
 simp only[Bool.or_eq_true,beq_iff_eq] at this
 lia
theorem tame0_ok:∀ t∈tame0,PairOK t:=fun t ht=>by
 simp only[tame0,List.mem_cons,List.not_mem_nil,or_false] at ht
 rcases ht with rfl | rfl | rfl
 ·exact⟨_,_,rfl,abc_dec (by decide +kernel),abc_dec (by decide +kernel),by decide +kernel,by decide +kernel,by decide +kernel⟩
 ·exact⟨_,_,rfl,abc_dec (by decide +kernel),abc_dec (by decide +kernel),by decide +kernel,by decide +kernel,by decide +kernel⟩
 ·exact⟨_,_,rfl,abc_dec (by decide +kernel),abc_dec (by decide +kernel),by decide +kernel,by decide +kernel,by decide +kernel⟩
theorem letter_rule {c:Nat}(hc:c=97∨c=98∨c=99){i j:Int}(hi:2≤i)(hi3:i≤3)(hj:0≤j)(hj1:j≤1):RuleOK (Txt.mul ⟨#[c]⟩ i) (Txt.mul ⟨#[c]⟩ j):=by
 have ll:∀ k:Int,0≤k→(Txt.mul (⟨#[c]⟩:Str) k).length=k.toNat:=fun k hk=>by
  rw[← slen,mul_cps hk,flat_len]; simp
 refine⟨(one_abc hc).mul (by lia),(one_abc hc).mul hj,?_,?_,less_of_short ?_⟩
 ·rw[ll i (by lia)]; lia
 ·rw[ll i (by lia)]; lia
 ·rw[ll i (by lia),ll j hj]; lia
theorem tame_turn {n:Int}{le:Str}{ts:List Th}{x3 x4 x5:Option Dv}{k:Nat}{c:Nat}(hc:c=97∨c=98∨c=99)(hts:∀ t∈ts,PairOK t)(hl:ts.length≤100) :
  ∃ d1 ts' y5,gPair 3 4 (.tup [.int (k:Int),.str ⟨#[c]⟩]) [some (Dv.th (.int n)),some (Dv.th (.str le)),some (Dv.own ts),x3,x4,x5]=some d1 ∧
   (fSeq (fSet 5 (fCall phi_l_drawn (fCons (fVar 0) (fCons (fVar 3) fNil))))
 (fIf (fTest (f2 oGt (f2 oMod (fVarB 5) (fC (.int 3))) (fC (.int 0)))) (fAppend 2 (fTup (fCons (f2 oTimes (fVarB 4) (f2 oPlus (fC (.int 2)) (f2 oMod (f2 oDiv (fVarB 5) (fC (.int 3))) (fC (.int 2))))) (fCons (f2 oTimes (fVarB 4) (f2 oMod (f2 oDiv (fVarB 5) (fC (.int 6))) (fC (.int 2)))) fNil)))) fNext)) d1
   =some (.nx [some (Dv.th (.int n)),some (Dv.th (.str le)),some (Dv.own ts'),some (Dv.th (.int (k:Int))),some (Dv.th (.str ⟨#[c]⟩)),y5])∧(∀ t∈ts',PairOK t)∧ts'.length≤ts.length+1:=by
 have e1:=drawn_eq n k
 have hc1:(⟨#[c]⟩:Str).length=1:=rfl
 refine⟨[some (Dv.th (.int n)),some (Dv.th (.str le)),some (Dv.own ts),some (Dv.th (.int (k:Int))),some (Dv.th (.str ⟨#[c]⟩)),x5],?_⟩
 have h0:fSet 5 (fCall phi_l_drawn (fCons (fVar 0) (fCons (fVar 3) fNil))) [some (Dv.th (.int n)),some (Dv.th (.str le)),some (Dv.own ts),some (Dv.th (.int (k:Int))),some (Dv.th (.str ⟨#[c]⟩)),x5]=some (.nx [some (Dv.th (.int n)),some (Dv.th (.str le)),some (Dv.own ts),some (Dv.th (.int (k:Int))),some (Dv.th (.str ⟨#[c]⟩)),some (Dv.th (.int (drawn n k)))]):=by
  walk_at "ev"
  simp only[e1]
  rfl
 by_cases h:0<drawn n k%3
 ·have t1:=times_str (x:=(⟨#[c]⟩:Str)) (j:=2+drawn n k / 3%2) (by lia) (by lia) (by rw[hc1]; lia)
  have t2:=times_str (x:=(⟨#[c]⟩:Str)) (j:=drawn n k / 6%2) (by lia) (by lia) (by rw[hc1]; lia)
  refine⟨ts++[.tup [.str (Txt.mul ⟨#[c]⟩ (2+drawn n k / 3%2)),.str (Txt.mul ⟨#[c]⟩ (drawn n k / 6%2))]],some (Dv.th (.int (drawn n k))),rfl,(fSeq_nx h0).trans ?_,fun t ht=>?_,by simp⟩
  rotate_left
  ·rcases List.mem_append.mp ht with z | z
   ·exact hts t z
   ·have:=List.mem_singleton.mp z
    subst this
    exact⟨_,_,rfl,letter_rule hc (by lia) (by lia) (by lia) (by lia)⟩
  ·walk_at "ev"
   simp only[decide_eq_true h,if_true,fAppend,List.getElem?_cons_zero,List.getElem?_cons_succ]
   walk_at "ev"
   simp only[t1,t2,Option.bind_some]
   walk_at "ev"
   rw[if_pos (by lia)]
 ·refine⟨ts,some (Dv.th (.int (drawn n k))),rfl,(fSeq_nx h0).trans ?_,hts,by lia⟩
  walk_at "ev"
  simp only[decide_eq_false h,if_false,Bool.false_eq_true]
theorem tame_eq {le:Str}(L:Lets le)(n:Int):∃ ts,phi_l_tame [.int n,.str le]=some (.lst ts)∧(∀ t∈ts,PairOK t)∧ts.length≤6:=by
 have hl:=L.len
 have first:∃ ts,fOwn 2 (fSlF (fC (.lst tame0)) fNoPart (fPart (f2 oSub (f2 oTimes (fC (.int 2)) (fCB oLen (fCons (fVarB 1) fNil))) (fC (.int 3))))) [some (Dv.th (.int n)),some (Dv.th (.str le)),none,none,none,none]
  =some (.nx [some (Dv.th (.int n)),some (Dv.th (.str le)),some (Dv.own ts),none,none,none])∧(∀ t∈ts,PairOK t)∧ts.length≤3:=by
  refine⟨cutL tame0 none (some (2*(le.length:Int)-3)),?_,fun t ht=>tame0_ok t (cut_mem ht),cutL_le _ _ _⟩
  unfold fOwn fSlF
  walk_at "ev"
  simp only[sl_lst]
  rfl
 obtain⟨ts1,f1,p1,l1⟩:=first
 have second:∃ ts,fIf (fTest (f2 oEq (f2 oMod (fVarB 0) (fC (.int 2))) (fC (.int 1)))) (fOwn 2 (fSlF (fVarB 2) fNoPart (fPart (f2 oMod (f2 oDiv (fVarB 0) (fC (.int 2))) (fC (.int 2)))))) fNext [some (Dv.th (.int n)),some (Dv.th (.str le)),some (Dv.own ts1),none,none,none]
  =some (.nx [some (Dv.th (.int n)),some (Dv.th (.str le)),some (Dv.own ts),none,none,none])∧(∀ t∈ts,PairOK t)∧ts.length≤3:=by
  by_cases h:n%2=1
  ·refine⟨cutL ts1 none (some (n / 2%2)),?_,fun t ht=>p1 t (cut_mem ht),Nat.le_trans (cutL_le _ _ _) l1⟩
   walk_at "ev"
   simp only[h,BEq.rfl,if_true,fOwn,fSlF]
   walk_at "ev"
   simp only[sl_lst]
   rfl
  ·refine⟨ts1,?_,p1,l1⟩
   walk_at "ev"
   have:(n%2 == 1)=false:=by simpa using h
   simp only[this,Bool.false_eq_true,if_false]
 obtain⟨ts2,f2',p2,l2⟩:=second
 have third:=forL_inv (g:=gPair 3 4) (F:=(fSeq (fSet 5 (fCall phi_l_drawn (fCons (fVar 0) (fCons (fVar 3) fNil))))
 (fIf (fTest (f2 oGt (f2 oMod (fVarB 5) (fC (.int 3))) (fC (.int 0)))) (fAppend 2 (fTup (fCons (f2 oTimes (fVarB 4) (f2 oPlus (fC (.int 2)) (f2 oMod (f2 oDiv (fVarB 5) (fC (.int 3))) (fC (.int 2))))) (fCons (f2 oTimes (fVarB 4) (f2 oMod (f2 oDiv (fVarB 5) (fC (.int 6))) (fC (.int 2)))) fNil)))) fNext)))
  (fun rest d=>∃ ts x3 x4 x5,d=[some (Dv.th (.int n)),some (Dv.th (.str le)),some (Dv.own ts),x3,x4,x5]∧(∀ t∈ts,PairOK t)∧ts.length+rest.length≤6∧∀ t∈rest,∃ (k c:Nat),t=.tup [.int (k:Int),.str ⟨#[c]⟩]∧(c=97∨c=98∨c=99))
  (fun t r d ⟨ts,x3,x4,x5,hd,hp,hz,hr⟩=>by
   subst hd
   obtain⟨k,c,rfl,hc⟩:=hr t List.mem_cons_self
   simp only[List.length_cons] at hz
   obtain⟨d1,ts',y5,g1,g2,g3,g4⟩:=tame_turn (n:=n) (le:=le) (x3:=x3) (x4:=x4) (x5:=x5) (k:=k) hc hp (by lia)
   exact⟨d1,_,g1,g2,ts',_,_,_,rfl,g3,by lia,fun t ht=>hr t (List.mem_cons_of_mem _ ht)⟩)
  (numbered 0 (signs le)) [some (Dv.th (.int n)),some (Dv.th (.str le)),some (Dv.own ts2),none,none,none]
  ⟨ts2,none,none,none,rfl,p2,by rw[numbered_length,signs_len]; lia,fun t ht=>by
   obtain⟨j,y,rfl,hy⟩:=numbered_mem ht
   unfold signs at hy
   obtain⟨c,hc,rfl⟩:=List.mem_map.mp hy
   exact⟨j,c,rfl,L.abcS c hc⟩⟩
 obtain⟨d',e3,ts3,x3,x4,x5,rfl,p3,l3,_⟩:=third
 refine⟨ts3,?_,p3,by simpa using l3⟩
 unfold phi_l_tame b_l_tame
 refine runD_rt rfl ?_
 refine (fSeq_nx f1).trans ((fSeq_nx f2').trans ((fSeq_nx ((fFor_of rfl).trans e3)).trans rfl))
theorem lets_of (i:Int) (h0:0≤i) (h1:i<2):∃ le,oIx (.tup [(.str ("ab":Str)),(.str ("abc":Str))]) (.int i)=some (.str le)∧Lets le:=by
 have:i=0∨i=1:=by lia
 rcases this with rfl | rfl
 ·exact⟨_,rfl,.ab⟩
 ·exact⟨_,rfl,.abc⟩
theorem rules_eq (n:Int):∃ ts,phi_l_rules [.int n]=some (.tup ts)∧(∀ t∈ts,PairOK t)∧ts.length≤7:=by
 obtain⟨le,hle,L⟩:=lets_of (n / 4%2) (by lia) (by lia)
 obtain⟨ts1,e1,p1,l1⟩:=tame_eq L (n / 8)
 have third:∃ ts,(fIf (fTest (f2 oGt (f2 oMod (fVarB 0) (fC (.int 4))) (fC (.int 1)))) (fSet 2 (fLst (fComp g1 (fRange1 (f2 oMod (f2 oDiv (fVarB 0) (fC (.int 8))) (fC (.int 5)))) fTrue (fCall phi_l_rule (fCons (fCall phi_l_drawn (fCons (fVar 1) (fCons (f2 oPlus (fC (.int 9)) (fVarB 0)) fNil))) (fCons (fVar 2) fNil)))))) (fIf (fTest (f2 oEq (f2 oMod (fVarB 0) (fC (.int 4))) (fC (.int 1)))) (fSet 2 (f2 oPlus (fVarB 2) (fLst (fList (fCons (fCall phi_l_rule (fCons (fCall phi_l_drawn (fCons (fVar 0) (fCons (fC (.int 9)) fNil))) (fCons (fVar 1) fNil))) fNil))))) fNext))
   [some (Dv.th (.int n)),some (Dv.th (.str le)),some (Dv.th (.lst ts1)),none]=some (.nx [some (Dv.th (.int n)),some (Dv.th (.str le)),some (Dv.th (.lst ts)),none])∧(∀ t∈ts,PairOK t)∧ts.length≤7:=by
  by_cases h:1<n%4
  ·obtain⟨ys,ey,py,ly⟩:=fComp_ex (fi:=fRange1 (f2 oMod (f2 oDiv (fVarB 0) (fC (.int 8))) (fC (.int 5)))) (fe:=fCall phi_l_rule (fCons (fCall phi_l_drawn (fCons (fVar 1) (fCons (f2 oPlus (fC (.int 9)) (fVarB 0)) fNil))) (fCons (fVar 2) fNil))) (d:=[some (Dv.th (.int n)),some (Dv.th (.str le)),some (Dv.th (.lst ts1)),none]) (ts:=L2.upTo (n / 8%5).toNat) (P:=PairOK)
    (by unfold fRange1; walk_at "ev"; rw[if_pos (by lia)]) (by simp[L2.upTo]; lia) (fun t ht=>by
     obtain⟨k,_,rfl⟩:=List.mem_map.mp (show t∈(List.range (n / 8%5).toNat).map fun (k:Nat)=>Th.int ((k:Nat):Int) from ht)
     have d1:=drawn_eq n (9+k)
     obtain⟨l,r,e,ok⟩:=rule_eq L (drawn n (9+k))
     refine⟨.tup [.str l,.str r],?_,l,r,rfl,ok⟩
     walk_at "ev"
     simp only[d1]
     walk_at "ev"
     simp only[e])
   refine⟨ys,?_,py,by rw[ly]; simp[L2.upTo]; lia⟩
   walk_at "ev"
   simp only[decide_eq_true h,if_true,ey]
   rfl
  ·by_cases h1:n%4=1
   ·have d1:=drawn_eq n 9
    obtain⟨l,r,e,ok⟩:=rule_eq L (drawn n 9)
    have p:=plus_lst (x:=ts1) (y:=[.tup [.str l,.str r]]) (by simp; lia)
    refine⟨ts1++[.tup [.str l,.str r]],?_,fun t ht=>?_,by simp; lia⟩
    ·walk_at "ev"
     simp only[decide_eq_false h,if_false,Bool.false_eq_true,h1,BEq.rfl,if_true]
     try walk_at "ev"
     simp only[d1]
     walk_at "ev"
     simp only[e]
     walk_at "ev"
     simp only[p]
     rfl
    ·rcases List.mem_append.mp ht with z | z
     ·exact p1 t z
     ·have:=List.mem_singleton.mp z
      subst this
      exact⟨l,r,rfl,ok⟩
   ·refine⟨ts1,?_,p1,by lia⟩
    walk_at "ev"
    have:(n%4 == 1)=false:=by simpa using h1
    simp only[decide_eq_false h,if_false,Bool.false_eq_true,this]
 obtain⟨ts,e3,p3,l3⟩:=third
 have lA:=cutL_le ts (some (n / 640%5)) none
 have lB:=cutL_le ts none (some (n / 640%5))
 have hcut:(cutL ts (some (n / 640%5)) none++cutL ts none (some (n / 640%5))).length≤7:=by
  rw[cut_from _ (by lia),cut_to _ (by lia),List.length_append,List.length_drop,List.length_take]; lia
 refine⟨cutL ts (some (n / 640%5)) none++cutL ts none (some (n / 640%5)),?_,fun t ht=>(List.mem_append.mp ht).elim (fun z=>p3 t (cut_mem z)) fun z=>p3 t (cut_mem z),hcut⟩
 have p:=plus_lst (x:=cutL ts (some (n / 640%5)) none) (y:=cutL ts none (some (n / 640%5))) (by lia)
 unfold phi_l_rules b_l_rules
 refine runD_rt rfl ?_
 refine (fSeq_nx (d':=[some (Dv.th (.int n)),some (Dv.th (.str le)),none,none]) ?_).trans ?_
 ·walk_at "ev"
  simp only[hle]
  rfl
 refine (fSeq_nx (d':=[some (Dv.th (.int n)),some (Dv.th (.str le)),some (Dv.th (.lst ts1)),none]) ?_).trans ?_
 ·walk_at "ev"
  simp only[e1]
  rfl
 refine (fSeq_nx e3).trans ?_
 refine (fSeq_nx (d':=[some (Dv.th (.int n)),some (Dv.th (.str le)),some (Dv.th (.lst ts)),some (Dv.th (.int (n / 640%5)))]) ?_).trans ?_
 ·walk_at "ev"
 walk_at "ev"
 simp only[sl_lst,Option.bind_some,p]
 rfl
theorem fTup2 {a b:FD}{d:Sd}{x y:Th}(h1:a d=some x)(h2:b d=some y):fTup (fCons a (fCons b fNil)) d=some (.tup [x,y]):=by
 unfold fTup fCons fNil fitL
 rw[h1,h2]
 rfl
theorem cut_drop (w:W)(p:Nat)(hw:w.length≤100000):oSl (tS w) (some (p:Int)) none=some (tS (w.drop p)):=by
 unfold tS
 rw[sl_str' (by rw[sL_len]; lia)]
 congr 2
 unfold cutS
 rw[sL_cps,cut_from _ (by lia)]
 rfl
theorem cut_take (w:W)(p:Nat)(hw:w.length≤100000):oSl (tS w) none (some (p:Int))=some (tS (w.take p)):=by
 unfold tS
 rw[sl_str' (by rw[sL_len]; lia)]
 congr 2
 unfold cutS
 rw[sL_cps,cut_to _ (by lia)]
 rfl
theorem rule_at {R:List Ru}{k:Nat}{r:Ru}(h:R[k]?=some r):oIx (RT R) (.int (k:Int))=some (rTh r):=by
 have hk:k<R.length:=(List.getElem?_eq_some_iff.mp h).1
 show atI (R.map rTh) (k:Int)=_
 rw[atI_nat' (by lia) (by rw[List.length_map]; lia),Int.toNat_natCast,List.getElem?_map,h]
 rfl
theorem places_loop {l w:W}(hl:l≠[])(hw:w.length≤1000):∀ (n lo:Nat) (acc:List Th),w.length+1-lo<n→acc.length+(w.length+1-lo)≤2000 →
  whileN (fTest (f2 oGe (fVarB 3) (fC (.int 0)))) (fSeq (fAppend 2 (fVar 3)) (fSet 3 (fM2 (fun z y i=>some (.int (Txt.find3 z y i))) (fVarB 1) (fVarB 0) (f2 oPlus (fVarB 3) (fC (.int 1)))))) n
   [some (Dv.th (tS l)),some (Dv.th (tS w)),some (Dv.own acc),some (Dv.th (.int (intO (firstAt l w lo))))] =
   some (.nx [some (Dv.th (tS l)),some (Dv.th (tS w)),some (Dv.own (acc++(allAt l w lo).map fun (i:Nat)=>Th.int (i:Int))),some (Dv.th (.int (-1)))])
 |0,lo,acc,h,_=>absurd h (by lia)
 |n+1,lo,acc,h,hz=>by
  unfold whileN
  cases hf:firstAt l w lo with
  |none =>
   rw[allAt_none hf]
   simp only[intO,fTest,f2,fVarB,fC,List.getElem?_cons_succ,List.getElem?_cons_zero,Option.bind_some,ge_int,List.map_nil,List.append_nil]
   rfl
  |some p =>
   obtain⟨h1,h2,h3⟩:=allAt_first hf
   have e0:decide ((0:Int)≤(p:Int))=true:=decide_eq_true (by lia)
   have e1:acc.length<1000000:=by lia
   have f3:=find3_eq (w:=w) hl (p+1)
   have ih:=places_loop hl hw n (p+1) (acc++[Th.int (p:Int)]) (by lia) (by rw[List.length_append,List.length_singleton]; lia)
   simp only[intO,fTest,f2,fVarB,fC,List.getElem?_cons_succ,List.getElem?_cons_zero,Option.bind_some,ge_int,e0,if_true,fSeq,fAppend,fVar,e1,List.set_cons_zero,List.set_cons_succ,fSet,fM2,tS,plus_int,Option.map_some]
   rw[show ((p:Int)+1)=((p+1:Nat):Int) by lia,f3]
   simp only[tS] at ih
   rw[ih,h3,List.map_cons,List.append_assoc]
   rfl
theorem places_of_eq {l w:W}(hl:l≠[])(hw:w.length≤1000):phi_places_of [tS l,tS w]=some (.lst ((allAt l w 0).map fun (i:Nat)=>Th.int (i:Int))):=by
 unfold phi_places_of b_places_of
 refine runD_rt rfl ?_
 refine (fSeq_nx (d':=[some (Dv.th (tS l)),some (Dv.th (tS w)),some (Dv.own []),none]) rfl).trans ?_
 refine (fSeq_nx (d':=[some (Dv.th (tS l)),some (Dv.th (tS w)),some (Dv.own []),some (Dv.th (.int (intO (firstAt l w 0))))]) ?_).trans ?_
 ·have f0:=find_eq (w:=w) hl
  simp only[fSet,fM1,f2,fVarB,List.map,List.length,List.replicate,List.cons_append,List.nil_append,List.getElem?_cons_succ,List.getElem?_cons_zero,Option.bind_some,Option.map_some,tS,f0,List.set_cons_zero,List.set_cons_succ]
 refine (fSeq_nx (fWhile_of (places_loop hl hw (w.length+5) 0 [] (by lia) (by simp; lia)))).trans ?_
 rfl
theorem compK {w:W}{k:Nat}{d:Sd}(hd:d[3]?=some (some (Dv.th (.int (k:Int))))):∀ (is:List Nat),compL g1 fTrue (fTup (fCons (fVar 0) (fCons (fVar 4) fNil))) d (is.map fun (i:Nat)=>Th.int (i:Int))=some ((is.map fun p=>(p,k)).map prTh)
 |[]=>rfl
 |i::is=>by
  have ih:=compK (w:=w) hd is
  have e:fTup (fCons (fVar 0) (fCons (fVar 4) fNil)) (some (Dv.th (.int (i:Int)))::d)=some (prTh (i,k)):=by
   refine fTup2 rfl ?_
   unfold fVar
   rw[List.getElem?_cons_succ,hd]
  simp only[List.map_cons,compL,g1,fTrue,Option.bind_some,List.cons_append,List.nil_append,if_true,e]
  rw[ih]
  rfl
theorem allAt_len (l w:W):(allAt l w 0).length≤w.length+1:=by
 unfold allAt
 have:=List.length_filter_le (stands l w) (List.range' 0 (w.length+1-0))
 rw[List.length_range'] at this
 lia
theorem cols_loop {R0:List Ru}{w:W}(hw:w.length≤1000):∀ (R:List Ru) (k:Nat) (acc:List Th) (x3 x4:Option Dv),(∀ r∈R,r.1≠[])→acc.length+R.length*1001≤900000 →
  ∃ y3 y4,forL (gPair 3 4) (fExtend 2 (fLst (fComp g1 (fItems (fCall phi_places_of (fCons (f2 oIx (fVarB 4) (fC (.int 0))) (fCons (fVar 1) fNil)))) fTrue (fTup (fCons (fVar 0) (fCons (fVar 4) fNil)))))) (numbered k (R.map rTh))
   [some (Dv.th (RT R0)),some (Dv.th (tS w)),some (Dv.own acc),x3,x4]=some (.nx [some (Dv.th (RT R0)),some (Dv.th (tS w)),some (Dv.own (acc++(colsFrom w k R).map prTh)),y3,y4])
 |[],k,acc,x3,x4,_,_=>⟨x3,x4,by simp[L2.numbered,forL,colsFrom]⟩
 |r::R,k,acc,x3,x4,hR,hz=>by
  have hl:=hR r List.mem_cons_self
  have pe:=places_of_eq hl hw
  have al:=allAt_len r.1 w
  have e1:fComp g1 (fItems (fCall phi_places_of (fCons (f2 oIx (fVarB 4) (fC (.int 0))) (fCons (fVar 1) fNil)))) fTrue (fTup (fCons (fVar 0) (fCons (fVar 4) fNil)))
    [some (Dv.th (RT R0)),some (Dv.th (tS w)),some (Dv.own acc),some (Dv.th (.int (k:Int))),some (Dv.th (rTh r))]=some (((allAt r.1 w 0).map fun p=>(p,k)).map prTh):=by
   have ei:fItems (fCall phi_places_of (fCons (f2 oIx (fVarB 4) (fC (.int 0))) (fCons (fVar 1) fNil))) [some (Dv.th (RT R0)),some (Dv.th (tS w)),some (Dv.own acc),some (Dv.th (.int (k:Int))),some (Dv.th (rTh r))]
    =some ((allAt r.1 w 0).map fun (i:Nat)=>Th.int (i:Int)):=by
    have e0:oIx (rTh r) (.int 0)=some (tS r.1):=rfl
    simp only[fItems,fCall,fCons,fNil,f2,fVarB,fVar,fC,List.getElem?_cons_succ,List.getElem?_cons_zero,Option.bind_some,e0,pe]
    rfl
   unfold fComp
   rw[ei,Option.bind_some,if_pos (by rw[List.length_map]; lia)]
   exact compK (w:=w) rfl _
  have hz1:acc.length+(((allAt r.1 w 0).map fun p=>(p,k)).map prTh).length≤1000000:=by
   rw[List.length_map,List.length_map]
   rw[List.length_cons] at hz
   lia
  obtain⟨y3,y4,ih⟩:=cols_loop (R0:=R0) hw R (k+1) (acc++((allAt r.1 w 0).map fun p=>(p,k)).map prTh) (some (Dv.th (.int (k:Int)))) (some (Dv.th (rTh r))) (fun q hq=>hR q (List.mem_cons_of_mem _ hq)) (by
   rw[List.length_append,List.length_map,List.length_map]
   rw[List.length_cons] at hz
   lia)
  refine⟨y3,y4,?_⟩
  rw[List.map_cons]
  unfold L2.numbered forL
  have g:gPair 3 4 (.tup [.int (k:Int),rTh r]) [some (Dv.th (RT R0)),some (Dv.th (tS w)),some (Dv.own acc),x3,x4]=some [some (Dv.th (RT R0)),some (Dv.th (tS w)),some (Dv.own acc),some (Dv.th (.int (k:Int))),some (Dv.th (rTh r))]:=rfl
  rw[g,Option.bind_some]
  have x:fExtend 2 (fLst (fComp g1 (fItems (fCall phi_places_of (fCons (f2 oIx (fVarB 4) (fC (.int 0))) (fCons (fVar 1) fNil)))) fTrue (fTup (fCons (fVar 0) (fCons (fVar 4) fNil)))))
    [some (Dv.th (RT R0)),some (Dv.th (tS w)),some (Dv.own acc),some (Dv.th (.int (k:Int))),some (Dv.th (rTh r))] =
    some (.nx [some (Dv.th (RT R0)),some (Dv.th (tS w)),some (Dv.own (acc++((allAt r.1 w 0).map fun p=>(p,k)).map prTh)),some (Dv.th (.int (k:Int))),some (Dv.th (rTh r))]):=by
   simp only[fExtend,fLst,e1,List.getElem?_cons_succ,List.getElem?_cons_zero,Option.map_some,Option.bind_some,seqOf,if_pos hz1,List.set_cons_zero,List.set_cons_succ]
  rw[x]
  simp only[Option.bind_some]
  rw[ih]
  have hc:colsFrom w k (r::R)=(allAt r.1 w 0).map (fun p=>(p,k))++colsFrom w (k+1) R:=rfl
  rw[hc,List.map_append,List.append_assoc]
theorem places_eq {R:List Ru}{w:W}(hR:∀ r∈R,r.1≠[])(hn:R.length≤100)(hw:w.length≤1000):phi_places [RT R,tS w]=some (.tup ((placesW R w).map prTh)):=by
 obtain⟨y3,y4,lp⟩:=cols_loop (R0:=R) hw R 0 [] none none hR (by simp; lia)
 unfold phi_places b_places
 refine runD_rt rfl ?_
 refine (fSeq_nx (d':=[some (Dv.th (RT R)),some (Dv.th (tS w)),some (Dv.own []),none,none]) rfl).trans ?_
 have hf:fFor (fEnum (fVar 0)) (gPair 3 4) (fExtend 2 (fLst (fComp g1 (fItems (fCall phi_places_of (fCons (f2 oIx (fVarB 4) (fC (.int 0))) (fCons (fVar 1) fNil)))) fTrue (fTup (fCons (fVar 0) (fCons (fVar 4) fNil))))))
   [some (Dv.th (RT R)),some (Dv.th (tS w)),some (Dv.own []),none,none]=some (.nx [some (Dv.th (RT R)),some (Dv.th (tS w)),some (Dv.own ((colsFrom w 0 R).map prTh)),y3,y4]):=by
  rw[fFor_of (ts:=numbered 0 (R.map rTh)) rfl]
  exact lp
 refine (fSeq_nx hf).trans ?_
 have hs:=sort_places (w:=w) hR
 have ho:=okT_pr (colsFrom w 0 R)
 simp only[fRet,fCB,fCons,fNil,fLst,fSort2,oSort2,fVarB,List.getElem?_cons_succ,List.getElem?_cons_zero,Option.bind_some,Option.map_some,ho,if_true,hs,oTuple]
theorem lrow {R0:List Ru}{w:W}{p:Nat}(hw:w.length≤1000){x2:Option Dv}:∀ (R:List Ru) (k:Nat),
  compL g2 (fTest (fM1 (fun z y=>some (.bl (Txt.startswith z y))) (fSl (fVarB 3) (fPart (fVar 5)) fNoPart) (f2 oIx (fVarB 1) (fC (.int 0))))) (fTup (fCons (fVar 5) (fCons (fVar 0) fNil)))
   [some (Dv.th (RT R0)),some (Dv.th (tS w)),x2,some (Dv.th (.int (p:Int)))] (numbered k (R.map rTh))=some ((rowFrom w p k R).map prTh)
 |[],k=>rfl
 |r::R,k=>by
  have ih:=lrow (R0:=R0) (p:=p) hw (x2:=x2) R (k+1)
  rw[List.map_cons]
  unfold L2.numbered compL
  have g:g2 (.tup [.int (k:Int),rTh r])=some [some (Dv.th (.int (k:Int))),some (Dv.th (rTh r))]:=rfl
  rw[g]
  simp only[Option.bind_some,List.cons_append,List.nil_append]
  have e1:fTest (fM1 (fun z y=>some (.bl (Txt.startswith z y))) (fSl (fVarB 3) (fPart (fVar 5)) fNoPart) (f2 oIx (fVarB 1) (fC (.int 0)))) [some (Dv.th (.int (k:Int))),some (Dv.th (rTh r)),some (Dv.th (RT R0)),some (Dv.th (tS w)),x2,some (Dv.th (.int (p:Int)))]=some (stands r.1 w p):=by
   have e0:oIx (rTh r) (.int 0)=some (tS r.1):=rfl
   have e2:=cut_drop w p (by lia)
   have e3:=starts_eq (w.drop p) r.1
   simp only[fTest,fM1,f2,fSl,fPart,fNoPart,fVarB,fVar,fC,List.getElem?_cons_succ,List.getElem?_cons_zero,Option.bind_some,e0,e2]
   simp only[tS,e3]
   rfl
  have e4:fTup (fCons (fVar 5) (fCons (fVar 0) fNil)) [some (Dv.th (.int (k:Int))),some (Dv.th (rTh r)),some (Dv.th (RT R0)),some (Dv.th (tS w)),x2,some (Dv.th (.int (p:Int)))]=some (prTh (p,k)):=fTup2 rfl rfl
  have hc:rowFrom w p k (r::R)=if stands r.1 w p=true then (p,k)::rowFrom w p (k+1) R else rowFrom w p (k+1) R:=rfl
  rw[e1,Option.bind_some,e4,hc]
  cases hs:stands r.1 w p with
  |true=>rw[ih]; rfl
  |false=>rw[if_neg (by simp),if_neg (by simp)]; exact ih
theorem lplaces_loop {R:List Ru}{w:W}(hn:R.length≤100)(hw:w.length≤1000):∀ (ps:List Nat) (acc:List Th) (x3:Option Dv),acc.length+ps.length*100≤900000 →
  ∃ y3,forL (gVar 3) (fSet 2 (f2 oPlus (fVarB 2) (fLst (fComp g2 (fEnum (fVar 0)) (fTest (fM1 (fun z y=>some (.bl (Txt.startswith z y))) (fSl (fVarB 3) (fPart (fVar 5)) fNoPart) (f2 oIx (fVarB 1) (fC (.int 0))))) (fTup (fCons (fVar 5) (fCons (fVar 0) fNil))))))) (ps.map fun (k:Nat)=>Th.int (k:Int))
   [some (Dv.th (RT R)),some (Dv.th (tS w)),some (Dv.th (.lst acc)),x3]=some (.nx [some (Dv.th (RT R)),some (Dv.th (tS w)),some (Dv.th (.lst (acc++(ps.flatMap fun p=>rowFrom w p 0 R).map prTh))),y3])
 |[],acc,x3,_=>⟨x3,by simp[forL]⟩
 |p::ps,acc,x3,hz=>by
  have hr:=row_len w p 0 R
  rw[List.length_cons] at hz
  obtain⟨y3,ih⟩:=lplaces_loop hn hw ps (acc++(rowFrom w p 0 R).map prTh) (some (Dv.th (.int (p:Int)))) (by rw[List.length_append,List.length_map]; lia)
  refine⟨y3,?_⟩
  rw[List.map_cons]
  unfold forL
  have g:gVar 3 (.int (p:Int)) [some (Dv.th (RT R)),some (Dv.th (tS w)),some (Dv.th (.lst acc)),x3]=some [some (Dv.th (RT R)),some (Dv.th (tS w)),some (Dv.th (.lst acc)),some (Dv.th (.int (p:Int)))]:=rfl
  rw[g,Option.bind_some]
  have row:=lrow (R0:=R) (p:=p) hw (x2:=some (Dv.th (.lst acc))) R 0
  have c:fComp g2 (fEnum (fVar 0)) (fTest (fM1 (fun z y=>some (.bl (Txt.startswith z y))) (fSl (fVarB 3) (fPart (fVar 5)) fNoPart) (f2 oIx (fVarB 1) (fC (.int 0))))) (fTup (fCons (fVar 5) (fCons (fVar 0) fNil)))
    [some (Dv.th (RT R)),some (Dv.th (tS w)),some (Dv.th (.lst acc)),some (Dv.th (.int (p:Int)))]=some ((rowFrom w p 0 R).map prTh):=by
   unfold fComp
   have ee:fEnum (fVar 0) [some (Dv.th (RT R)),some (Dv.th (tS w)),some (Dv.th (.lst acc)),some (Dv.th (.int (p:Int)))]=some (numbered 0 (R.map rTh)):=rfl
   rw[ee,Option.bind_some,if_pos (by rw[numbered_length,List.length_map]; lia)]
   exact row
  have pl:=plus_lst (x:=acc) (y:=(rowFrom w p 0 R).map prTh) (by rw[List.length_map]; lia)
  have st:fSet 2 (f2 oPlus (fVarB 2) (fLst (fComp g2 (fEnum (fVar 0)) (fTest (fM1 (fun z y=>some (.bl (Txt.startswith z y))) (fSl (fVarB 3) (fPart (fVar 5)) fNoPart) (f2 oIx (fVarB 1) (fC (.int 0))))) (fTup (fCons (fVar 5) (fCons (fVar 0) fNil))))))
    [some (Dv.th (RT R)),some (Dv.th (tS w)),some (Dv.th (.lst acc)),some (Dv.th (.int (p:Int)))]=some (.nx [some (Dv.th (RT R)),some (Dv.th (tS w)),some (Dv.th (.lst (acc++(rowFrom w p 0 R).map prTh))),some (Dv.th (.int (p:Int)))]):=by
   simp only[fSet,f2,fVarB,fLst,c,List.getElem?_cons_succ,List.getElem?_cons_zero,Option.bind_some,Option.map_some,pl,List.set_cons_zero,List.set_cons_succ]
  rw[st]
  simp only[Option.bind_some]
  rw[ih,List.flatMap_cons,List.map_append,List.append_assoc]
theorem l_places_eq {R:List Ru}{w:W}(hn:R.length≤100)(hw:w.length≤1000):phi_l_places [RT R,tS w]=some (.lst ((placesW R w).map prTh)):=by
 obtain⟨y3,lp⟩:=lplaces_loop hn hw (List.range w.length) [] none (by simp; lia)
 unfold phi_l_places b_l_places
 refine runD_rt rfl ?_
 refine (fSeq_nx (d':=[some (Dv.th (RT R)),some (Dv.th (tS w)),some (Dv.th (.lst [])),none]) rfl).trans ?_
 have hf:fFor (fRange1 (fCB oLen (fCons (fVarB 1) fNil))) (gVar 3) (fSet 2 (f2 oPlus (fVarB 2) (fLst (fComp g2 (fEnum (fVar 0)) (fTest (fM1 (fun z y=>some (.bl (Txt.startswith z y))) (fSl (fVarB 3) (fPart (fVar 5)) fNoPart) (f2 oIx (fVarB 1) (fC (.int 0))))) (fTup (fCons (fVar 5) (fCons (fVar 0) fNil)))))))
   [some (Dv.th (RT R)),some (Dv.th (tS w)),some (Dv.th (.lst [])),none]=some (.nx [some (Dv.th (RT R)),some (Dv.th (tS w)),some (Dv.th (.lst ((placesW R w).map prTh))),y3]):=by
  have hl:=len_str (x:=sL w) (by rw[sL_len]; lia)
  have e:fRange1 (fCB oLen (fCons (fVarB 1) fNil)) [some (Dv.th (RT R)),some (Dv.th (tS w)),some (Dv.th (.lst [])),none]=some (L2.upTo w.length):=by
   simp only[fRange1,fCB,fCons,fNil,fVarB,List.getElem?_cons_succ,List.getElem?_cons_zero,Option.bind_some,tS,hl]
   rw[if_pos (by rw[sL_len]; lia),sL_len,Int.toNat_natCast]
  rw[fFor_of e,upTo_eq]
  have lp':=lp
  rw[List.nil_append] at lp'
  exact lp'
 refine (fSeq_nx hf).trans ?_
 rfl
theorem plus_tS {a b:W}(h:a.length+b.length≤1000000):oPlus (tS a) (tS b)=some (tS (a++b)):=by
 unfold tS
 rw[plus_str (by rw[sL_len,sL_len]; exact h),sL_app]
theorem len_tS {a:W}(h:a.length≤1000000):oLen [tS a]=some (.int (a.length:Int)):=by
 unfold tS
 rw[len_str (by rw[sL_len]; exact h)]
 rfl
theorem put_right_eq {r:Ru}{w:W}{p:Nat}(hw:w.length≤10000)(h1:r.1.length≤10000)(h2:r.2.length≤10000):phi_put_right [rTh r,tS w,.int (p:Int)]=some (tS (chW r w p)):=by
 unfold phi_put_right b_put_right
 refine runD_rt rfl ?_
 have e0:oIx (rTh r) (.int 0)=some (tS r.1):=rfl
 have e1:oIx (rTh r) (.int 1)=some (tS r.2):=rfl
 have s1:=cut_take w p (by lia)
 have s2:=cut_drop w (p+r.1.length) (by lia)
 have l1:=len_tS (a:=r.1) (by lia)
 have p1:=plus_tS (a:=w.take p) (b:=r.2) (by rw[List.length_take]; lia)
 have p2:=plus_tS (a:=w.take p++r.2) (b:=w.drop (p+r.1.length)) (by rw[List.length_append,List.length_take,List.length_drop]; lia)
 simp only[fRet,f2,fSl,fPart,fNoPart,fVarB,fVar,fC,fCB,fCons,fNil,List.map,List.length,List.replicate,List.cons_append,List.nil_append,List.getElem?_cons_succ,List.getElem?_cons_zero,Option.bind_some,Option.map_some,e0,e1,s1,l1,plus_int,p1]
 rw[show ((p:Int)+(r.1.length:Int))=((p+r.1.length:Nat):Int) by lia,s2]
 simp only[Option.bind_some,p2,Option.map_some]
 rfl
theorem l_changed_eq {R:List Ru}{r:Ru}{w:W}{p k:Nat}(hr:R[k]?=some r)(hw:w.length≤10000)(h1:r.1.length≤10000)(h2:r.2.length≤10000):phi_l_changed [RT R,tS w,.int (p:Int),.int (k:Int)]=some (tS (chW r w p)):=by
 unfold phi_l_changed b_l_changed
 refine runD_rt rfl ?_
 have e0:=rule_at hr
 refine (fSeq_nx (d':=[some (Dv.th (RT R)),some (Dv.th (tS w)),some (Dv.th (.int (p:Int))),some (Dv.th (.int (k:Int))),some (Dv.th (tS r.1)),some (Dv.th (tS r.2))]) ?_).trans ?_
 ·simp only[fAsg,f2,fVarB,List.map,List.length,List.replicate,List.cons_append,List.nil_append,List.getElem?_cons_succ,List.getElem?_cons_zero,Option.bind_some,e0]
  rfl
 have s1:=cut_take w p (by lia)
 have s2:=cut_drop w (p+r.1.length) (by lia)
 have l1:=len_tS (a:=r.1) (by lia)
 have p1:=plus_tS (a:=w.take p) (b:=r.2) (by rw[List.length_take]; lia)
 have p2:=plus_tS (a:=w.take p++r.2) (b:=w.drop (p+r.1.length)) (by rw[List.length_append,List.length_take,List.length_drop]; lia)
 simp only[fRet,f2,fSl,fPart,fNoPart,fVarB,fVar,fC,fCB,fCons,fNil,List.getElem?_cons_succ,List.getElem?_cons_zero,Option.bind_some,Option.map_some,s1,l1,plus_int,p1]
 rw[show ((p:Int)+(r.1.length:Int))=((p+r.1.length:Nat):Int) by lia,s2]
 simp only[Option.bind_some,p2,Option.map_some]
 rfl
def chs (R:List Ru)(w:W)(xs:List (Nat×Nat)):List W:=xs.filterMap fun x=>(R[x.2]?).map fun r=>chW r w x.1
theorem strs_tS:∀ l:List W,strsOf (l.map tS)=some (l.map sL)
 |[]=>rfl
 |a::l=>by
  show (strsOf (l.map tS)).map (sL a::·)=_
  rw[strs_tS l]
  rfl
noncomputable def nextsS (R:List Ru)(w:W):List Str:=sortS (Sg.metS ((stepsW R w).map sL))
structure Small (R:List Ru):Prop where
 few:R.length≤100
 ok:∀ r∈R,r.1≠[]∧r.1.length≤1000∧r.2.length≤1000
theorem Small.ne {R:List Ru}(h:Small R):∀ r∈R,r.1≠[]:=fun r hr=>(h.ok r hr).1
theorem steps_len {R:List Ru}{w:W}(hS:Small R)(hw:w.length≤30):(stepsW R w).length≤3000:=by
 unfold stepsW
 have h1:=List.length_filterMap_le (fun x:Nat×Nat=>(R[x.2]?).map fun r=>chW r w x.1) (placesW R w)
 have h2:=places_len R w
 have h3:w.length*R.length≤30*100:=Nat.mul_le_mul hw hS.few
 lia
theorem lnexts_loop {R:List Ru}{w:W}(hS:Small R)(hw:w.length≤1000):∀ (xs:List (Nat×Nat)) (acc:List Th) (x3 x4:Option Dv),(∀ x∈xs,∃ r,R[x.2]?=some r)→acc.length+xs.length≤900000 →
  ∃ y3 y4,forL (gPair 3 4) (fAppend 2 (fCall phi_l_changed (fCons (fVar 0) (fCons (fVar 1) (fCons (fVar 3) (fCons (fVar 4) fNil)))))) (xs.map prTh) [some (Dv.th (RT R)),some (Dv.th (tS w)),some (Dv.own acc),x3,x4] =
   some (.nx [some (Dv.th (RT R)),some (Dv.th (tS w)),some (Dv.own (acc++(chs R w xs).map tS)),y3,y4])
 |[],acc,x3,x4,_,_=>⟨x3,x4,by simp[forL,chs]⟩
 |x::xs,acc,x3,x4,hx,hz=>by
  obtain⟨r,hr⟩:=hx x List.mem_cons_self
  have hk:=hS.ok r (List.mem_of_getElem? hr)
  have ce:=l_changed_eq (p:=x.1) (w:=w) hr (by lia) (by lia) (by lia)
  rw[List.length_cons] at hz
  obtain⟨y3,y4,ih⟩:=lnexts_loop hS hw xs (acc++[tS (chW r w x.1)]) (some (Dv.th (.int (x.1:Int)))) (some (Dv.th (.int (x.2:Int)))) (fun y hy=>hx y (List.mem_cons_of_mem _ hy)) (by rw[List.length_append,List.length_singleton]; lia)
  refine⟨y3,y4,?_⟩
  rw[List.map_cons]
  unfold forL
  have g:gPair 3 4 (prTh x) [some (Dv.th (RT R)),some (Dv.th (tS w)),some (Dv.own acc),x3,x4]=some [some (Dv.th (RT R)),some (Dv.th (tS w)),some (Dv.own acc),some (Dv.th (.int (x.1:Int))),some (Dv.th (.int (x.2:Int)))]:=rfl
  rw[g,Option.bind_some]
  have st:fAppend 2 (fCall phi_l_changed (fCons (fVar 0) (fCons (fVar 1) (fCons (fVar 3) (fCons (fVar 4) fNil))))) [some (Dv.th (RT R)),some (Dv.th (tS w)),some (Dv.own acc),some (Dv.th (.int (x.1:Int))),some (Dv.th (.int (x.2:Int)))] =
    some (.nx [some (Dv.th (RT R)),some (Dv.th (tS w)),some (Dv.own (acc++[tS (chW r w x.1)])),some (Dv.th (.int (x.1:Int))),some (Dv.th (.int (x.2:Int)))]):=by
   have hl:acc.length<1000000:=by lia
   simp only[fAppend,fCall,fCons,fNil,fVar,List.getElem?_cons_succ,List.getElem?_cons_zero,Option.bind_some,ce,if_pos hl,List.set_cons_zero,List.set_cons_succ]
  rw[st]
  simp only[Option.bind_some]
  have hc:chs R w (x::xs)=chW r w x.1::chs R w xs:=by
   unfold chs
   rw[List.filterMap_cons,hr]
   rfl
  rw[ih,hc,List.map_cons,List.append_assoc]
  rfl
theorem sortset_eq {l:List W}(h:l.length<4000):oSortSet [.lst (l.map tS)]=some ((sortS (Sg.metS (l.map sL))).map Th.str):=by
 show (strsOf (l.map tS)).bind _=_
 rw[strs_tS,Option.bind_some,if_pos (by rw[List.length_map]; exact h)]
theorem l_nexts_eq {R:List Ru}{w:W}(hS:Small R)(hw:w.length≤30):phi_l_nexts [RT R,tS w]=some (.lst ((nextsS R w).map Th.str)):=by
 have hp:∀ x∈placesW R w,∃ r,R[x.2]?=some r:=fun x hx=>let ⟨r,h,_⟩:=(mem_places hS.ne).mp hx; ⟨r,h⟩
 have h2:=places_len R w
 have h3:w.length*R.length≤30*100:=Nat.mul_le_mul hw hS.few
 obtain⟨y3,y4,lp⟩:=lnexts_loop (w:=w) hS (by lia) (placesW R w) [] none none hp (by simp; lia)
 have pe:=l_places_eq (R:=R) (w:=w) hS.few (by lia)
 unfold phi_l_nexts b_l_nexts
 refine runD_rt rfl ?_
 refine (fSeq_nx (d':=[some (Dv.th (RT R)),some (Dv.th (tS w)),some (Dv.own []),none,none]) rfl).trans ?_
 refine (fSeq_nx (d':=[some (Dv.th (RT R)),some (Dv.th (tS w)),some (Dv.own ((stepsW R w).map tS)),y3,y4]) ?_).trans ?_
 ·rw[fFor_of (ts:=(placesW R w).map prTh) (by simp only[fSeqI,fCall,fCons,fNil,fVar,List.getElem?_cons_succ,List.getElem?_cons_zero,Option.bind_some,pe])]
  exact lp
 ·have se:=sortset_eq (l:=stepsW R w) (by have:=steps_len hS hw; lia)
  simp only[fRet,fLst,fSortSet,fCons,fNil,fVarB,List.getElem?_cons_succ,List.getElem?_cons_zero,Option.bind_some,Option.map_some,se]
  rfl
theorem comp_put {R:List Ru}{w:W}(hS:Small R)(hw:w.length≤1000):∀ (xs:List (Nat×Nat)),(∀ x∈xs,∃ r,R[x.2]?=some r) →
  compL g2 fTrue (fCall phi_put_right (fCons (f2 oIx (fVarB 2) (fVarB 1)) (fCons (fVar 3) (fCons (fVar 0) fNil)))) [some (Dv.th (RT R)),some (Dv.th (tS w))] (xs.map prTh)=some ((chs R w xs).map tS)
 |[],_=>rfl
 |x::xs,hx=>by
  obtain⟨r,hr⟩:=hx x List.mem_cons_self
  have hk:=hS.ok r (List.mem_of_getElem? hr)
  have ce:=put_right_eq (r:=r) (p:=x.1) (w:=w) (by lia) (by lia) (by lia)
  have ih:=comp_put hS hw xs fun y hy=>hx y (List.mem_cons_of_mem _ hy)
  have e0:=rule_at hr
  rw[List.map_cons]
  unfold compL
  have g:g2 (prTh x)=some [some (Dv.th (.int (x.1:Int))),some (Dv.th (.int (x.2:Int)))]:=rfl
  rw[g]
  have fe:fCall phi_put_right (fCons (f2 oIx (fVarB 2) (fVarB 1)) (fCons (fVar 3) (fCons (fVar 0) fNil))) [some (Dv.th (.int (x.1:Int))),some (Dv.th (.int (x.2:Int))),some (Dv.th (RT R)),some (Dv.th (tS w))]=some (tS (chW r w x.1)):=by
   simp only[fCall,fCons,fNil,f2,fVar,fVarB,List.getElem?_cons_succ,List.getElem?_cons_zero,Option.bind_some,e0,ce]
  simp only[Option.bind_some,List.cons_append,List.nil_append,fTrue,if_true,fe,ih]
  have hc:chs R w (x::xs)=chW r w x.1::chs R w xs:=by
   unfold chs
   rw[List.filterMap_cons,hr]
   rfl
  rw[hc,List.map_cons]
theorem nexts_eq {R:List Ru}{w:W}(hS:Small R)(hw:w.length≤30):phi_nexts [RT R,tS w]=some (.tup ((nextsS R w).map Th.str)):=by
 have hp:∀ x∈placesW R w,∃ r,R[x.2]?=some r:=fun x hx=>let ⟨r,h,_⟩:=(mem_places hS.ne).mp hx; ⟨r,h⟩
 have h2:=places_len R w
 have h3:w.length*R.length≤30*100:=Nat.mul_le_mul hw hS.few
 have pe:=places_eq (R:=R) (w:=w) hS.ne hS.few (by lia)
 have cp:=comp_put (w:=w) hS (by lia) (placesW R w) hp
 have se:=sortset_eq (l:=stepsW R w) (by have:=steps_len hS hw; lia)
 unfold phi_nexts b_nexts
 refine runD_rt rfl ?_
 have c:fComp g2 (fSeqI (fCall phi_places (fCons (fVar 0) (fCons (fVar 1) fNil)))) fTrue (fCall phi_put_right (fCons (f2 oIx (fVarB 2) (fVarB 1)) (fCons (fVar 3) (fCons (fVar 0) fNil)))) [some (Dv.th (RT R)),some (Dv.th (tS w))]=some ((stepsW R w).map tS):=by
  unfold fComp
  have e:fSeqI (fCall phi_places (fCons (fVar 0) (fCons (fVar 1) fNil))) [some (Dv.th (RT R)),some (Dv.th (tS w))]=some ((placesW R w).map prTh):=by
   simp only[fSeqI,fCall,fCons,fNil,fVar,List.getElem?_cons_succ,List.getElem?_cons_zero,Option.bind_some,pe]
  rw[e,Option.bind_some,if_pos (by rw[List.length_map]; lia)]
  exact cp
 show fRet _ [some (Dv.th (RT R)),some (Dv.th (tS w))]=_
 simp only[fRet,fCB,fCons,fNil,fLst,fSortSet,c,Option.bind_some,Option.map_some,se,oTuple]
 rfl
theorem lessS_tS (a b:W):lessS (sL a) (sL b)=true↔ltW a b:=by
 unfold lessS
 rw[decide_eq_true_eq]
 exact Iff.rfl
structure RR (R:List Ru):Prop where
 few:R.length≤8
 ok:∀ r∈R,RuleOK (sL r.1) (sL r.2)
theorem RR.small {R:List Ru}(h:RR R):Small R:=⟨Nat.le_trans h.few (by decide),fun r hr=>by
 have z:=h.ok r hr
 have l1:1≤r.1.length:=z.l1
 have l6:r.1.length≤6:=z.l6
 have rl:r.2.length≤r.1.length:=z.rl
 exact⟨List.length_pos_iff.mp (by lia),by lia,by lia⟩⟩
theorem RR.lt {R:List Ru}(h:RR R):∀ r∈R,r.1≠[]∧ltW r.2 r.1:=fun r hr=>⟨h.small.ne r hr,(lessS_tS _ _).mp (h.ok r hr).less⟩
theorem RR.ne {R:List Ru}(h:RR R):∀ r∈R,r.1≠[]:=h.small.ne
theorem rules_of:∀ {ts:List Th},(∀ t∈ts,PairOK t)→∃ R:List Ru,ts=R.map rTh∧∀ r∈R,RuleOK (sL r.1) (sL r.2)
 |[],_=>⟨[],rfl,fun _ h=>absurd h (by simp)⟩
 |t::ts,h=>by
  obtain⟨R,e,hR⟩:=rules_of fun u hu=>h u (List.mem_cons_of_mem _ hu)
  obtain⟨l,r,rfl,ok⟩:=h t List.mem_cons_self
  refine⟨(l.cps.toList,r.cps.toList)::R,?_,fun q hq=>?_⟩
  ·rw[List.map_cons,← e]
   unfold rTh tS
   rw[sL_of,sL_of]
  ·rcases List.mem_cons.mp hq with rfl | hq
   ·rw[sL_of,sL_of]; exact ok
   ·exact hR q hq
noncomputable def nxW (R:List Ru)(w:W):List W:=(nextsS R w).map fun s=>s.cps.toList
theorem nx_sL (R:List Ru)(w:W):(nxW R w).map sL=nextsS R w:=by
 unfold nxW
 rw[List.map_map]
 exact (List.map_congr_left fun s _=>sL_of s).trans (List.map_id _)
theorem nx_str (R:List Ru)(w:W):(nextsS R w).map Th.str=(nxW R w).map tS:=by rw[map_tS,nx_sL]
theorem mem_nx {R:List Ru}{w y:W}:y∈nxW R w↔y∈stepsW R w:=by
 have h:∀ s:Str,s∈nextsS R w↔s∈(stepsW R w).map sL:=fun s=>((sortS_ex _).1.mem_iff).trans Sg.mem_metS
 unfold nxW
 rw[List.mem_map]
 constructor
 ·rintro⟨s,hs,rfl⟩
  obtain⟨v,hv,rfl⟩:=List.mem_map.mp ((h s).mp hs)
  exact hv
 ·intro hy
  exact⟨sL y,(h _).mpr (List.mem_map.mpr ⟨y,hy,rfl⟩),rfl⟩
theorem nx_nodup (R:List Ru)(w:W):(nxW R w).Nodup:=by
 have h:(nextsS R w).Nodup:=(sortS_ex _).1.nodup_iff.mpr (Sg.metS_nodup _)
 rw[← nx_sL] at h
 exact (List.pairwise_map.mp h).imp fun hne e=>hne (by rw[e])
theorem nx_len {R:List Ru}{w:W}(hR:RR R)(hw:w.length≤11):(nxW R w).length≤88:=by
 unfold nxW
 rw[List.length_map]
 have h1:(nextsS R w).length=(Sg.metS ((stepsW R w).map sL)).length:=(sortS_ex _).1.length_eq
 have h2:=Sg.metS_len ((stepsW R w).map sL)
 rw[List.length_map] at h2
 have h3:(stepsW R w).length≤(placesW R w).length:=List.length_filterMap_le _ _
 have h4:=places_len R w
 have h5:w.length*R.length≤11*8:=Nat.mul_le_mul hw hR.few
 lia
theorem nx_lt {R:List Ru}(hR:RR R){w y:W}(h:y∈nxW R w):ltW y w:=by
 obtain⟨p,r,hr,hs,rfl⟩:=(mem_steps hR.ne).mp (mem_nx.mp h)
 obtain⟨k,hk,e1⟩:=List.getElem_of_mem hr
 exact ltW_step (x:=(p,k)) hR.lt (by rw[List.getElem?_eq_getElem hk,e1]) hs
theorem nx_all {R:List Ru}(hR:RR R):∀ x∈allW,∀ y∈nxW R x,y∈allW:=fun x hx y hy=>by
 obtain⟨h1,h2⟩:=mem_allW.mp hx
 refine mem_allW.mpr ⟨?_,?_⟩
 ·rcases nx_lt hR hy with z | z
  ·lia
  ·lia
 ·obtain⟨p,r,hr,hs,rfl⟩:=(mem_steps hR.ne).mp (mem_nx.mp hy)
  have ra:AbcW r.2:=(hR.ok r hr).ra
  intro c hc
  unfold chW at hc
  rcases List.mem_append.mp hc with hc | hc
  ·rcases List.mem_append.mp hc with hc | hc
   ·exact h2 c (List.mem_of_mem_take hc)
   ·exact ra c hc
  ·exact h2 c (List.mem_of_mem_drop hc)
theorem nx_nil {R:List Ru}(hR:RR R){w:W}:nxW R w=[]↔placesW R w=[]:=by
 constructor
 ·intro h
  cases hp:placesW R w with
  |nil=>rfl
  |cons x l =>
   obtain⟨r,hr,hs⟩:=(mem_places hR.ne).mp (show x∈placesW R w by rw[hp]; exact List.mem_cons_self)
   have:chW r w x.1∈nxW R w:=mem_nx.mpr ((mem_steps hR.ne).mpr ⟨x.1,r,List.mem_of_getElem? hr,hs,rfl⟩)
   rw[h] at this
   cases this
 ·intro h
  refine List.eq_nil_iff_forall_not_mem.mpr fun y hy=>?_
  have:=mem_nx.mp hy
  unfold stepsW at this
  rw[h] at this
  cases this
theorem nx_val {R:List Ru}(hR:RR R){w y:W}(hw:w∈allW)(h:y∈nxW R w):val y<val w:=by
 refine val_lt (nx_lt hR h) fun c hc=>?_
 rcases (mem_allW.mp (nx_all hR w hw y h)).2 c hc with rfl | rfl | rfl <;> decide
noncomputable def isE (R:List Ru)(x:W):Bool:=((nxW R x).length:Int) == 0
theorem isE_iff {R:List Ru}{x:W}:isE R x=true↔nxW R x=[]:=by
 unfold isE
 rw[beq_iff_eq]
 constructor
 ·intro h
  exact List.length_eq_zero_iff.mp (by lia)
 ·intro h
  rw[h]; rfl
theorem while_no {c:FB}{F:FS}{d:Sd}(h:c d=some false):whileN c F 1 d=some (.nx d):=by
 unfold whileN; rw[h]; rfl
theorem while_go {c:FB}{F:FS}{n:Nat}{d d':Sd}{o:Out}(h:c d=some true)(hF:F d=some (.nx d'))(hn:whileN c F n d'=some o):whileN c F (n+1) d=some o:=by
 unfold whileN; rw[h,Option.bind_some,if_pos rfl,hF]; exact hn
noncomputable def endsT (R:List Ru)(v:List W):List Th:=(sortS ((v.filter (isE R)).map sL)).map Th.str
theorem sort_tS (l:List W):oSort2 [.lst (l.map tS)]=some ((sortS (l.map sL)).map Th.str):=by
 show (if okT (l.map tS)=true then some (sortT (l.map tS)) else none)=_
 rw[map_tS,if_pos (okT_str _),sortT_str]
noncomputable abbrev cB:FB:=fTest (f2 oLt (fVarB 4) (fCB oLen (fCons (fVarB 2) fNil)))
noncomputable abbrev bB:FS:=fSeq (fSet 5 (fCall phi_l_nexts (fCons (fVar 0) (fCons (f2 oIx (fVarB 2) (fVarB 4)) fNil))))
 (fSeq (fIf (fTest (f2 oEq (fVarB 5) (fC (.lst [])))) (fAppend 3 (f2 oIx (fVarB 2) (fVarB 4))) fNext)
 (fSeq (fSet 2 (f2 oPlus (fVarB 2) (fLst (fComp g1 (fItems (fVar 5)) (fTest (f2 (oIn true) (fVarB 0) (fVarB 3))) (fVar 0)))))
 (fSet 4 (f2 oPlus (fVarB 4) (fC (.int 1))))))
theorem eqTh_tS (x y:W):eqTh (tS y) (tS x)=decide (y=x):=by
 show (sL y == sL x)=_
 by_cases h:y=x
 ·subst h; simp
 ·rw[decide_eq_false h]
  exact beq_eq_false_iff_ne.mpr fun z=>h (sL_inj z)
theorem any_tS {x:W}:∀ {l:List W},anyEq (tS x) (l.map tS)=decide (x∈l)
 |[]=>rfl
 |y::l=>by
  rw[List.map_cons,anyEq,any_tS,eqTh_tS]
  by_cases h:y=x
  ·subst h; simp
  ·have h':¬ x=y:=fun z=>h z.symm
   simp[h,h']
theorem dp_tS:∀ l:List W,dpL (l.map tS)=0
 |[]=>rfl
 |x::l=>by
  rw[List.map_cons,dpL,dp_tS l]
  rfl
theorem at_tS {l:List W}{i:Nat}{x:W}(h:l[i]?=some x):oIx (.lst (l.map tS)) (.int (i:Int))=some (tS x):=by
 have hk:i<l.length:=(List.getElem?_eq_some_iff.mp h).1
 show atI (l.map tS) (i:Int)=_
 rw[atI_nat' (by lia) (by rw[List.length_map]; lia),Int.toNat_natCast,List.getElem?_map,h]
 rfl
theorem lends_loop {R:List Ru}(hR:RR R){s:W}(hs:s∈allW){t0 t1:Option Dv}(h0:t0=some (.th (RT R))):∀ (m i:Nat) (v:List W),BfsOk (nxW R) s i v→265720-i=m→∀ x5:Option Dv,
  ∃ n v' y5,BfsOk (nxW R) s v'.length v'∧whileN cB bB n [t0,t1,some (.th (.lst (v.map tS))),some (.own (((v.take i).filter (isE R)).map tS)),some (.th (.int (i:Int))),x5]=some (.nx [t0,t1,some (.th (.lst (v'.map tS))),some (.own ((v'.filter (isE R)).map tS)),some (.th (.int (v'.length:Int))),y5]):=by
 have U:=nx_all hR
 intro m
 induction m with
 |zero =>
  intro i v k em x5
  have hv:=nodup_sub_len k.nd (U:=allW) fun y hy=>(k.vr y hy).mem U hs
  rw[allW_len] at hv
  have hi:=k.le
  have e:i=v.length:=by lia
  subst e
  refine⟨1,v,x5,k,?_⟩
  rw[List.take_length]
  refine while_no ?_
  have l1:oLen [.lst (v.map tS)]=some (.int ((v.length:Nat):Int)):=by rw[len_lst,List.length_map]
  simp only[cB,fTest,f2,fCB,fCons,fNil,fVarB,List.getElem?_cons_succ,List.getElem?_cons_zero,Option.bind_some,l1,lt_int]
  simp
 |succ m ih =>
  intro i v k em x5
  have hv:=nodup_sub_len k.nd (U:=allW) fun y hy=>(k.vr y hy).mem U hs
  rw[allW_len] at hv
  have hi:=k.le
  have l1:oLen [.lst (v.map tS)]=some (.int ((v.length:Nat):Int)):=by rw[len_lst,List.length_map]
  by_cases e:i=v.length
  ·subst e
   refine⟨1,v,x5,k,?_⟩
   rw[List.take_length]
   refine while_no ?_
   simp only[cB,fTest,f2,fCB,fCons,fNil,fVarB,List.getElem?_cons_succ,List.getElem?_cons_zero,Option.bind_some,l1,lt_int]
   simp
  ·have hlt:i<v.length:=by lia
   obtain⟨x,hx⟩:∃ x,v[i]?=some x:=⟨_,List.getElem?_eq_getElem hlt⟩
   have xm:x∈v:=List.mem_of_getElem? hx
   have xa:x∈allW:=(k.vr x xm).mem U hs
   have x6:=(mem_allW.mp xa).1
   have nl:=nx_len hR x6
   have k':=k.turn hx (nx_nodup R x)
   obtain⟨n,v',y5,q,en⟩:=ih (i+1) _ k' (by lia) (some (.th (.lst ((nxW R x).map tS))))
   refine⟨n+1,v',y5,q,while_go ?_ ?_ en⟩
   ·simp only[cB,fTest,f2,fCB,fCons,fNil,fVarB,List.getElem?_cons_succ,List.getElem?_cons_zero,Option.bind_some,l1,lt_int]
    have:((i:Nat):Int)<((v.length:Nat):Int):=by lia
    simp[hlt]
   have ne:=l_nexts_eq (R:=R) (w:=x) hR.small (by lia)
   rw[nx_str] at ne
   have ix:=at_tS hx
   have fl:((v.take i).filter (isE R)).length≤265720:=by
    have h1:=List.length_filter_le (isE R) (v.take i)
    have h2:=List.length_take_le i v
    have h3:(v.take i).length≤v.length:=by rw[List.length_take]; lia
    lia
   have tk:(v++newOf v (nxW R x)).take (i+1)=v.take i++[x]:=by
    rw[List.take_append_of_le_length (by lia),List.take_add_one,hx]; rfl
   refine (fSeq_nx (d':=[t0,t1,some (.th (.lst (v.map tS))),some (.own (((v.take i).filter (isE R)).map tS)),some (.th (.int (i:Int))),some (.th (.lst ((nxW R x).map tS)))]) ?_).trans ?_
   ·subst h0
    simp only[fSet,fCall,fCons,fNil,fVar,f2,fVarB,List.getElem?_cons_succ,List.getElem?_cons_zero,Option.bind_some,Option.map_some,ix,ne,List.set_cons_zero,List.set_cons_succ]
   refine (fSeq_nx (d':=[t0,t1,some (.th (.lst (v.map tS))),some (.own (((v.take i++[x]).filter (isE R)).map tS)),some (.th (.int (i:Int))),some (.th (.lst ((nxW R x).map tS)))]) ?_).trans ?_
   ·have ee:oEq (.lst ((nxW R x).map tS)) (.lst [])=some (.bl (isE R x)):=by
     unfold oEq
     rw[if_pos (decide_eq_true (by show dpL ((nxW R x).map tS)+1≤100; rw[dp_tS]; lia))]
     show some (Th.bl (eqThL _ _))=_
     cases hn:nxW R x with
     |nil =>
      have:=isE_iff.mpr hn
      rw[this]; rfl
     |cons a l =>
      have:isE R x=false:=by
       cases hz:isE R x with
       |false=>rfl
       |true=>rw[isE_iff.mp hz] at hn; cases hn
      rw[this]; rfl
    simp only[fIf,fTest,f2,fVarB,fC,List.getElem?_cons_succ,List.getElem?_cons_zero,Option.bind_some,ee]
    cases hz:isE R x with
    |true =>
     have z:(((v.take i).filter (isE R)).map tS).length<1000000:=by rw[List.length_map]; lia
     simp only[if_true,fAppend,f2,fVarB,List.getElem?_cons_succ,List.getElem?_cons_zero,Option.bind_some,ix,if_pos z,List.set_cons_zero,List.set_cons_succ,List.filter_append,List.map_append,List.filter_cons,hz,List.filter_nil,List.map_cons,List.map_nil]
    |false =>
     simp only[Bool.false_eq_true,if_false,fNext,List.filter_append,List.filter_cons,hz,List.filter_nil,List.append_nil]
   refine (fSeq_nx (d':=[t0,t1,some (.th (.lst ((v++newOf v (nxW R x)).map tS))),some (.own (((v.take i++[x]).filter (isE R)).map tS)),some (.th (.int (i:Int))),some (.th (.lst ((nxW R x).map tS)))]) ?_).trans ?_
   ·have c:=fComp_filter (fi:=fItems (fVar 5)) (ft:=fTest (f2 (oIn true) (fVarB 0) (fVarB 3))) (q:=fun t=>!anyEq t (v.map tS)) (ts:=(nxW R x).map tS)
     (d:=[t0,t1,some (.th (.lst (v.map tS))),some (.own (((v.take i++[x]).filter (isE R)).map tS)),some (.th (.int (i:Int))),some (.th (.lst ((nxW R x).map tS)))]) rfl (by rw[List.length_map]; lia) fun t ht=>by
      have ei:oIn true t (.lst (v.map tS))=some (.bl (!anyEq t (v.map tS))):=by
       simp only[oIn,dp_tS,if_true]
       rfl
      simp only[fTest,f2,fVarB,List.getElem?_cons_succ,List.getElem?_cons_zero,Option.bind_some,ei]
    have c2:((nxW R x).map tS).filter (fun t=>!anyEq t (v.map tS))=(newOf v (nxW R x)).map tS:=by
     rw[List.filter_map]
     unfold newOf
     congr 1
     refine List.filter_congr fun y _=>?_
     show (!anyEq (tS y) (v.map tS))=_
     rw[any_tS]
     by_cases h:y∈v <;> simp[h]
    rw[c2] at c
    have nw:(newOf v (nxW R x)).length≤88:=Nat.le_trans (List.length_filter_le _ _) nl
    have p:=plus_lst (x:=v.map tS) (y:=(newOf v (nxW R x)).map tS) (by rw[List.length_map,List.length_map]; lia)
    simp only[fSet,f2,fVarB,fLst,List.getElem?_cons_succ,List.getElem?_cons_zero,Option.bind_some,Option.map_some,c,p,List.set_cons_zero,List.set_cons_succ,List.map_append]
   ·rw[← tk]
    simp only[fSet,f2,fVarB,fC,List.getElem?_cons_succ,List.getElem?_cons_zero,Option.bind_some,Option.map_some,plus_int,List.set_cons_zero,List.set_cons_succ]
    rfl
theorem l_ends_eq {R:List Ru}(hR:RR R){w:W}(hw:w∈allW):∃ v,BfsOk (nxW R) w v.length v∧phi_l_ends [RT R,tS w]=some (.tup (endsT R v)):=by
 have k0:BfsOk (nxW R) w 0 [w]:=⟨by simp,Nat.zero_le _,(fun x h=>by rw[List.mem_singleton] at h; subst h; exact .refl _),(fun x h=>nomatch h),by simp⟩
 obtain⟨n,v,y5,k,e⟩:=lends_loop hR hw (t0:=some (.th (RT R))) (t1:=some (.th (tS w))) rfl 265720 0 [w] k0 rfl none
 refine⟨v,k,?_⟩
 unfold phi_l_ends b_l_ends
 refine runD_rt rfl ?_
 refine (fSeq_nx (d':=[some (.th (RT R)),some (.th (tS w)),some (.th (.lst ([w].map tS))),none,none,none]) rfl).trans ?_
 refine (fSeq_nx (d':=[some (.th (RT R)),some (.th (tS w)),some (.th (.lst ([w].map tS))),some (.own []),none,none]) rfl).trans ?_
 refine (fSeq_nx (d':=[some (.th (RT R)),some (.th (tS w)),some (.th (.lst ([w].map tS))),some (.own []),some (.th (.int 0)),none]) rfl).trans ?_
 refine (fSeq_nx (fWhile_of e)).trans ?_
 simp only[fRet,fCB,fCons,fNil,fLst,fSort2,fVarB,List.getElem?_cons_succ,List.getElem?_cons_zero,Option.bind_some,Option.map_some,sort_tS,oTuple]
 rfl
def findT (w:W):Nat→List Ru→List Th
 |_,[]=>[]
 |k,r::R=>.tup [.int (intO (firstAt r.1 w 0)),.int (k:Int)]::findT w (k+1) R
theorem findT_len (w:W):∀ (k:Nat) (R:List Ru),(findT w k R).length=R.length
 |_,[]=>rfl
 |k,r::R=>by
  show (findT w (k+1) R).length+1=_
  rw[findT_len w (k+1) R]
  rfl
theorem find_row {R0:List Ru}{w:W}{x2 x3:Option Dv}:∀ (R:List Ru) (k:Nat),(∀ r∈R,r.1≠[]) →
  compL g2 fTrue (fTup (fCons (fM1 (fun z y=>some (.int (Txt.find z y))) (fVarB 3) (f2 oIx (fVarB 1) (fC (.int 0)))) (fCons (fVar 0) fNil))) [some (Dv.th (RT R0)),some (Dv.th (tS w)),x2,x3] (numbered k (R.map rTh))=some (findT w k R)
 |[],k,_=>rfl
 |r::R,k,h=>by
  have ih:=find_row (R0:=R0) (w:=w) (x2:=x2) (x3:=x3) R (k+1) fun q hq=>h q (List.mem_cons_of_mem _ hq)
  rw[List.map_cons]
  unfold L2.numbered compL
  have g:g2 (.tup [.int (k:Int),rTh r])=some [some (Dv.th (.int (k:Int))),some (Dv.th (rTh r))]:=rfl
  rw[g]
  simp only[Option.bind_some,List.cons_append,List.nil_append]
  have e1:fM1 (fun z y=>some (.int (Txt.find z y))) (fVarB 3) (f2 oIx (fVarB 1) (fC (.int 0))) [some (Dv.th (.int (k:Int))),some (Dv.th (rTh r)),some (Dv.th (RT R0)),some (Dv.th (tS w)),x2,x3]=some (.int (intO (firstAt r.1 w 0))):=by
   have e0:oIx (rTh r) (.int 0)=some (tS r.1):=rfl
   have e3:=find_eq (w:=w) (h r List.mem_cons_self)
   simp only[fM1,f2,fVarB,fC,List.getElem?_cons_succ,List.getElem?_cons_zero,Option.bind_some,e0]
   simp only[tS,e3]
  have e4:=fTup2 (a:=fM1 (fun z y=>some (.int (Txt.find z y))) (fVarB 3) (f2 oIx (fVarB 1) (fC (.int 0)))) (b:=fVar 0) (d:=[some (Dv.th (.int (k:Int))),some (Dv.th (rTh r)),some (Dv.th (RT R0)),some (Dv.th (tS w)),x2,x3]) (y:=.int (k:Int)) e1 rfl
  rw[e4,ih]
  rfl
theorem find_filter (w:W):∀ (k:Nat) (R:List Ru),(findT w k R).filter (fun t=>match t with | .tup [.int i,_]=>decide (0≤i) | _=>false)=(candW w k R).map prTh
 |_,[]=>rfl
 |k,r::R=>by
  have ih:=find_filter w (k+1) R
  rw[show findT w k (r::R)=.tup [.int (intO (firstAt r.1 w 0)),.int (k:Int)]::findT w (k+1) R from rfl,List.filter_cons,ih]
  rw[show candW w k (r::R)=(match firstAt r.1 w 0 with | some p=>(p,k)::candW w (k+1) R | none=>candW w (k+1) R) from rfl]
  cases hf:firstAt r.1 w 0 with
  |none=>rfl
  |some p =>
   have:decide ((0:Int)≤intO (some p))=true:=decide_eq_true (by show (0:Int)≤(p:Int); lia)
   simp only[this,if_true]
   rfl
theorem findT_mem {w:W}{t:Th}:∀ {k:Nat} {R:List Ru},t∈findT w k R→∃ (i:Int) (j:Nat),t=.tup [.int i,.int (j:Int)]
 |_,[],h=>nomatch h
 |k,r::R,h=>by
  rcases List.mem_cons.mp (show t∈_::findT w (k+1) R from h) with rfl | h
  ·exact⟨_,_,rfl⟩
  ·exact findT_mem h
def foT:Option W→Th
 |some y=>tS y
 |none=>.non
theorem first_next_eq {R:List Ru}{w:W}(hR:RR R)(hw:w.length≤30):phi_first_next [RT R,tS w]=some (foT (firstW R w)):=by
 have hS:=hR.small
 have few:=hR.few
 unfold phi_first_next b_first_next
 refine runD_rt rfl ?_
 refine (fSeq_nx (d':=[some (.th (RT R)),some (.th (tS w)),some (.th (.lst (findT w 0 R))),none]) ?_).trans ?_
 ·have c:fComp g2 (fEnum (fVar 0)) fTrue (fTup (fCons (fM1 (fun z y=>some (.int (Txt.find z y))) (fVarB 3) (f2 oIx (fVarB 1) (fC (.int 0)))) (fCons (fVar 0) fNil))) [some (Dv.th (RT R)),some (Dv.th (tS w)),none,none]=some (findT w 0 R):=by
   unfold fComp
   have ee:fEnum (fVar 0) [some (Dv.th (RT R)),some (Dv.th (tS w)),none,none]=some (numbered 0 (R.map rTh)):=rfl
   rw[ee,Option.bind_some,if_pos (by rw[numbered_length,List.length_map]; lia)]
   exact find_row R 0 hR.ne
  show fSet 2 _ [some (Dv.th (RT R)),some (Dv.th (tS w)),none,none]=_
  simp only[fSet,fLst,c,Option.map_some,List.set_cons_zero,List.set_cons_succ]
 refine (fSeq_nx (d':=[some (.th (RT R)),some (.th (tS w)),some (.th (.lst (findT w 0 R))),some (.th (match (placesW R w).head? with | some x=>prTh x | none=>.non))]) ?_).trans ?_
 ·have c:=fComp_filter (fi:=fItems (fVar 2)) (ft:=fTest (f2 oGe (f2 oIx (fVarB 0) (fC (.int 0))) (fC (.int 0)))) (q:=fun t=>match t with | .tup [.int i,_]=>decide (0≤i) | _=>false) (ts:=findT w 0 R)
   (d:=[some (.th (RT R)),some (.th (tS w)),some (.th (.lst (findT w 0 R))),none]) rfl (by rw[findT_len]; lia) fun t ht=>by
    obtain⟨i,j,rfl⟩:=findT_mem ht
    have e0:oIx (.tup [.int i,.int (j:Int)]) (.int 0)=some (.int i):=rfl
    simp only[fTest,f2,fVarB,fC,List.getElem?_cons_zero,Option.bind_some,e0,ge_int]
  rw[find_filter] at c
  have hc:=head_cand hR.ne w
  simp only[fSet,fMinD,fCons,fNil,fLst,c,fC,Option.bind_some,Option.map_some,hc,List.set_cons_zero,List.set_cons_succ] <;> rfl
 cases hp:placesW R w with
 |nil =>
  have:firstW R w=none:=by unfold firstW; rw[hp]; rfl
  rw[this]
  rfl
 |cons x l =>
  obtain⟨r,hr,hs⟩:=(mem_places hR.ne).mp (show x∈placesW R w by rw[hp]; exact List.mem_cons_self)
  have:firstW R w=some (chW r w x.1):=by
   unfold firstW
   rw[hp]
   show (R[x.2]?).map _=_
   rw[hr]
   rfl
  rw[this]
  have ok:=hS.ok r (List.mem_of_getElem? hr)
  have pe:=put_right_eq (r:=r) (w:=w) (p:=x.1) (by lia) (by lia) (by lia)
  have ra:=rule_at hr
  have i1:oIx (prTh x) (.int 1)=some (.int (x.2:Int)):=rfl
  have i0:oIx (prTh x) (.int 0)=some (.int (x.1:Int)):=rfl
  have nn:oIsN false (prTh x) .non=some (.bl false):=rfl
  simp only[List.head?_cons,fRet,fIf,fTest,f2,fVarB,fVar,fC,fCall,fCons,fNil,List.getElem?_cons_succ,List.getElem?_cons_zero,Option.bind_some,Option.map_some,nn,Bool.false_eq_true,if_false,i1,i0,ra,pe]
  rfl
theorem firstW_nx {R:List Ru}(hR:RR R){w y:W}(h:firstW R w=some y):y∈nxW R w:=mem_nx.mpr (first_some hR.ne h)
theorem down_ex' {R:List Ru}(hR:RR R):∀ (n:Nat) (w:W),w∈allW→val w=n→∃ y,Down R w y:=by
 intro n
 induction n using Nat.strongRecOn with
 |ind n ih =>
  intro w hw e
  cases h:firstW R w with
  |none=>exact⟨w,.stop h⟩
  |some y =>
   have hy:=firstW_nx hR h
   obtain⟨z,r⟩:=ih (val y) (by rw[← e]; exact nx_val hR hw hy) y (nx_all hR w hw y hy) rfl
   exact⟨z,.go h r⟩
theorem Down.reach {R:List Ru}(hR:RR R){s w y:W}(d:Down R w y):Rch (nxW R) s w→Rch (nxW R) s y∧nxW R y=[]:=by
 induction d with
 |stop h=>exact fun r=>⟨r,(nx_nil hR).mpr (first_none hR.ne h)⟩
 |go h _ ih=>exact fun r=>ih (.step r (firstW_nx hR h))
noncomputable abbrev bD:FS:=fSeq (fSet 1 (fVar 2)) (fSet 2 (fCall phi_first_next (fCons (fVar 0) (fCons (fVar 1) fNil))))
theorem end_loop {R:List Ru}(hR:RR R){w y:W}(d:Down R w y):w∈allW →
  ∃ n,whileN (fTest (f2 (oIsN true) (fVarB 2) (fC .non))) bD n [some (.th (RT R)),some (.th (tS w)),some (.th (foT (firstW R w)))]=some (.nx [some (.th (RT R)),some (.th (tS y)),some (.th .non)]):=by
 induction d with
 |stop h =>
  intro _
  rw[h]
  exact⟨1,while_no rfl⟩
 |@go w y z h _ ih =>
  intro hw
  have hy:=nx_all hR w hw y (firstW_nx hR h)
  obtain⟨n,e⟩:=ih hy
  rw[h]
  have fe:=first_next_eq (w:=y) hR (by have:=(mem_allW.mp hy).1; lia)
  refine⟨n+1,while_go rfl ?_ e⟩
  refine (fSeq_nx (d':=[some (.th (RT R)),some (.th (tS y)),some (.th (tS y))]) rfl).trans ?_
  simp only[fSet,fCall,fCons,fNil,fVar,List.getElem?_cons_succ,List.getElem?_cons_zero,Option.bind_some,Option.map_some,fe,List.set_cons_zero,List.set_cons_succ]
theorem end_eq {R:List Ru}(hR:RR R){w y:W}(hw:w∈allW)(d:Down R w y):phi_end [RT R,tS w]=some (tS y):=by
 obtain⟨n,e⟩:=end_loop hR d hw
 have fe:=first_next_eq (w:=w) hR (by have:=(mem_allW.mp hw).1; lia)
 unfold phi_end b_end
 refine runD_rt rfl ?_
 refine (fSeq_nx (d':=[some (.th (RT R)),some (.th (tS w)),some (.th (foT (firstW R w)))]) ?_).trans ?_
 ·show fSet 2 _ [some (.th (RT R)),some (.th (tS w)),none]=_
  simp only[fSet,fCall,fCons,fNil,fVar,List.getElem?_cons_succ,List.getElem?_cons_zero,Option.bind_some,Option.map_some,fe,List.set_cons_zero,List.set_cons_succ]
 refine (fSeq_nx (fWhile_of e)).trans ?_
 rfl
theorem overlay_eq {l m:W}{p:Nat}(hl:l.length≤10000)(hm:m.length≤10000):phi_overlay [tS l,tS m,.int (p:Int)]=some (tS (ovW l m p)):=by
 unfold phi_overlay b_overlay
 refine runD_rt rfl ?_
 have s1:=cut_take l p (by lia)
 have s2:=cut_drop l (p+m.length) (by lia)
 have l1:=len_tS (a:=m) (by lia)
 have p1:=plus_tS (a:=l.take p) (b:=m) (by rw[List.length_take]; lia)
 have p2:=plus_tS (a:=l.take p++m) (b:=l.drop (p+m.length)) (by rw[List.length_append,List.length_take,List.length_drop]; lia)
 simp only[fRet,f2,fSl,fPart,fNoPart,fVarB,fVar,fC,fCB,fCons,fNil,List.map,List.length,List.replicate,List.cons_append,List.nil_append,List.getElem?_cons_succ,List.getElem?_cons_zero,Option.bind_some,Option.map_some,s1,l1,plus_int,p1]
 rw[show ((p:Int)+(m.length:Int))=((p+m.length:Nat):Int) by lia,s2]
 simp only[Option.bind_some,p2,Option.map_some]
 rfl
theorem overlays_eq {l m:W}{st:Nat}(hl:l.length≤10000)(hm:m.length≤10000)(hs:st≤1):phi_overlays [tS l,tS m,.int (st:Int)]=some (.lst ((ovsW l m st).map tS)):=by
 unfold phi_overlays b_overlays
 refine runD_rt rfl ?_
 have e1:fRange2 (fVar 2) (fCB oLen (fCons (fVarB 0) fNil)) [some (Dv.th (tS l)),some (Dv.th (tS m)),some (Dv.th (.int (st:Int))),none]=some (upFrom (st:Int) (l.length-st)):=by
  have l1:=len_tS (a:=l) (by lia)
  have hb:-1000000≤(st:Int)∧(st:Int)≤1000000∧-1000000≤(l.length:Int)∧(l.length:Int)≤1000000:=by lia
  simp only[fRange2,fCB,fCons,fNil,fVar,fVarB,List.getElem?_cons_succ,List.getElem?_cons_zero,Option.bind_some,l1,if_pos hb]
  rw[show ((l.length:Int)-(st:Int)).toNat=l.length-st by lia]
 have eu:upFrom (st:Int) (l.length-st)=(List.range' st (l.length-st)).map fun (i:Nat)=>Th.int (i:Int):=by
  unfold upFrom
  rw[List.range'_eq_map_range,List.map_map]
  refine List.map_congr_left fun k _=>?_
  show Th.int ((st:Int)+(k:Int))=Th.int ((st+k:Nat):Int)
  rw[Int.natCast_add]
 refine (fSeq_nx (d':=[some (Dv.th (tS l)),some (Dv.th (tS m)),some (Dv.th (.int (st:Int))),some (Dv.th (.lst (((List.range' st (l.length-st)).map (ovW l m)).map tS)))]) ?_).trans ?_
 ·have c:=fComp_map (fi:=fRange2 (fVar 2) (fCB oLen (fCons (fVarB 0) fNil))) (fe:=fCall phi_overlay (fCons (fVar 1) (fCons (fVar 2) (fCons (fVar 0) fNil)))) (p:=fun t=>match t with | .int i=>tS (ovW l m i.toNat) | _=>.non) e1
   (by unfold upFrom; rw[List.length_map,List.length_range]; lia) fun t ht=>by
    rw[eu] at ht
    obtain⟨i,-,rfl⟩:=List.mem_map.mp ht
    have oe:=overlay_eq (p:=i) hl hm
    simp only[fCall,fCons,fNil,fVar,List.getElem?_cons_succ,List.getElem?_cons_zero,Option.bind_some,oe,Int.toNat_natCast]
  have e2:(upFrom (st:Int) (l.length-st)).map (fun t=>match t with | .int i=>tS (ovW l m i.toNat) | _=>.non)=((List.range' st (l.length-st)).map (ovW l m)).map tS:=by
   rw[eu,List.map_map,List.map_map]
   exact List.map_congr_left fun i _=>rfl
  rw[e2] at c
  show fSet 3 _ [some (Dv.th (tS l)),some (Dv.th (tS m)),some (Dv.th (.int (st:Int))),none]=_
  simp only[fSet,fLst,c,Option.map_some,List.set_cons_zero,List.set_cons_succ]
 ·have c:=fComp_filter (fi:=fItems (fVar 3)) (ft:=fTest (fM1 (fun z y=>some (.bl (Txt.startswith z y))) (fVarB 0) (fVarB 1))) (q:=fun t=>match t with | .str x=>l.isPrefixOf x.cps.toList | _=>false)
   (ts:=((List.range' st (l.length-st)).map (ovW l m)).map tS) (d:=[some (Dv.th (tS l)),some (Dv.th (tS m)),some (Dv.th (.int (st:Int))),some (Dv.th (.lst (((List.range' st (l.length-st)).map (ovW l m)).map tS)))])
   rfl (by rw[List.length_map,List.length_map,List.length_range']; lia) fun t ht=>by
    obtain⟨u,-,rfl⟩:=List.mem_map.mp ht
    have e:=starts_eq u l
    simp only[fTest,fM1,f2,fVarB,tS,List.getElem?_cons_succ,List.getElem?_cons_zero,Option.bind_some,e]
    rfl
  have e2:(((List.range' st (l.length-st)).map (ovW l m)).map tS).filter (fun t=>match t with | .str x=>l.isPrefixOf x.cps.toList | _=>false)=(ovsW l m st).map tS:=by
   rw[List.filter_map]
   rfl
  rw[e2] at c
  simp only[fRet,fLst,c,Option.map_some]
noncomputable abbrev bC:FS:=fExtend 1 (fCall phi_overlays (fCons (f2 oIx (fVarB 3) (fC (.int 0))) (fCons (f2 oIx (fVarB 5) (fC (.int 0))) (fCons (fIf (fTest (f2 oEq (fVarB 2) (fVarB 4))) (fC (.int 1)) (fC (.int 0))) fNil))))
theorem row_loop {t0:Option Dv}{a:Ru}{i:Nat}(ha:a.1.length≤100):∀ (R:List Ru) (j:Nat) (acc:List Th) (x4 x5:Option Dv),(∀ r∈R,r.1.length≤100)→acc.length+R.length*100≤900000 →
  ∃ y4 y5,forL (gPair 4 5) bC (numbered j (R.map rTh)) [t0,some (Dv.own acc),some (Dv.th (.int (i:Int))),some (Dv.th (rTh a)),x4,x5] =
   some (.nx [t0,some (Dv.own (acc++(clRow a i j R).map tS)),some (Dv.th (.int (i:Int))),some (Dv.th (rTh a)),y4,y5])
 |[],j,acc,x4,x5,_,_=>⟨x4,x5,by simp[L2.numbered,forL,clRow]⟩
 |b::R,j,acc,x4,x5,hR,hz=>by
  have hb:=hR b List.mem_cons_self
  rw[List.length_cons] at hz
  have oe:=overlays_eq (l:=a.1) (m:=b.1) (st:=if i=j then 1 else 0) (by lia) (by lia) (by split <;> lia)
  have ol:=ovs_len a.1 b.1 (if i=j then 1 else 0)
  obtain⟨y4,y5,ih⟩:=row_loop (t0:=t0) (i:=i) ha R (j+1) (acc++(ovsW a.1 b.1 (if i=j then 1 else 0)).map tS) (some (Dv.th (.int (j:Int)))) (some (Dv.th (rTh b))) (fun q hq=>hR q (List.mem_cons_of_mem _ hq)) (by
   rw[List.length_append,List.length_map]; lia)
  refine⟨y4,y5,?_⟩
  rw[List.map_cons]
  unfold L2.numbered forL
  have g:gPair 4 5 (.tup [.int (j:Int),rTh b]) [t0,some (Dv.own acc),some (Dv.th (.int (i:Int))),some (Dv.th (rTh a)),x4,x5]=some [t0,some (Dv.own acc),some (Dv.th (.int (i:Int))),some (Dv.th (rTh a)),some (Dv.th (.int (j:Int))),some (Dv.th (rTh b))]:=rfl
  rw[g,Option.bind_some]
  have x:bC [t0,some (Dv.own acc),some (Dv.th (.int (i:Int))),some (Dv.th (rTh a)),some (Dv.th (.int (j:Int))),some (Dv.th (rTh b))] =
    some (.nx [t0,some (Dv.own (acc++(ovsW a.1 b.1 (if i=j then 1 else 0)).map tS)),some (Dv.th (.int (i:Int))),some (Dv.th (rTh a)),some (Dv.th (.int (j:Int))),some (Dv.th (rTh b))]):=by
   have e0:oIx (rTh a) (.int 0)=some (tS a.1):=rfl
   have e1:oIx (rTh b) (.int 0)=some (tS b.1):=rfl
   have e2:(fIf (fTest (f2 oEq (fVarB 2) (fVarB 4))) (fC (.int 1)) (fC (.int 0)):FD) [t0,some (Dv.own acc),some (Dv.th (.int (i:Int))),some (Dv.th (rTh a)),some (Dv.th (.int (j:Int))),some (Dv.th (rTh b))]=some (.int ((if i=j then 1 else 0:Nat):Int)):=by
    simp only[fIf,fTest,f2,fVarB,fC,List.getElem?_cons_succ,List.getElem?_cons_zero,Option.bind_some,eq_int]
    by_cases h:i=j
    ·subst h; simp
    ·have:((i:Int) == (j:Int))=false:=beq_eq_false_iff_ne.mpr fun z=>h (by lia)
     rw[this,if_neg h]; rfl
   have hz1:acc.length+((ovsW a.1 b.1 (if i=j then 1 else 0)).map tS).length≤1000000:=by rw[List.length_map]; lia
   simp only[bC,fExtend,fCall,fCons,fNil,e2]
   simp only[f2,fVarB,fC,List.getElem?_cons_succ,List.getElem?_cons_zero,Option.bind_some,e0,e1,oe,seqOf,if_pos hz1,List.set_cons_zero,List.set_cons_succ]
  rw[x]
  simp only[Option.bind_some]
  rw[ih]
  have hc:clRow a i j (b::R)=ovsW a.1 b.1 (if i=j then 1 else 0)++clRow a i (j+1) R:=rfl
  rw[hc,List.map_append,List.append_assoc]
theorem all_loop {R0:List Ru}(h0:∀ r∈R0,r.1.length≤100)(h8:R0.length≤8):∀ (R:List Ru) (i:Nat) (acc:List Th) (x2 x3 x4 x5:Option Dv),(∀ r∈R,r.1.length≤100)→acc.length+R.length*800≤800000 →
  ∃ y2 y3 y4 y5,forL (gPair 2 3) (fFor (fEnum (fVar 0)) (gPair 4 5) bC) (numbered i (R.map rTh)) [some (Dv.th (RT R0)),some (Dv.own acc),x2,x3,x4,x5] =
   some (.nx [some (Dv.th (RT R0)),some (Dv.own (acc++(clAll R0 i R).map tS)),y2,y3,y4,y5])
 |[],i,acc,x2,x3,x4,x5,_,_=>⟨x2,x3,x4,x5,by simp[L2.numbered,forL,clAll]⟩
 |a::R,i,acc,x2,x3,x4,x5,hR,hz=>by
  have ha:=hR a List.mem_cons_self
  rw[List.length_cons] at hz
  have rl:=clRow_len (i:=i) ha (j:=0) (R:=R0)
  obtain⟨z4,z5,lp⟩:=row_loop (t0:=some (Dv.th (RT R0))) (i:=i) ha R0 0 acc x4 x5 h0 (by lia)
  obtain⟨y2,y3,y4,y5,ih⟩:=all_loop h0 h8 R (i+1) (acc++(clRow a i 0 R0).map tS) (some (Dv.th (.int (i:Int)))) (some (Dv.th (rTh a))) z4 z5 (fun q hq=>hR q (List.mem_cons_of_mem _ hq)) (by
   rw[List.length_append,List.length_map]; lia)
  refine⟨y2,y3,y4,y5,?_⟩
  rw[List.map_cons]
  unfold L2.numbered forL
  have g:gPair 2 3 (.tup [.int (i:Int),rTh a]) [some (Dv.th (RT R0)),some (Dv.own acc),x2,x3,x4,x5]=some [some (Dv.th (RT R0)),some (Dv.own acc),some (Dv.th (.int (i:Int))),some (Dv.th (rTh a)),x4,x5]:=rfl
  rw[g,Option.bind_some,fFor_of (ts:=numbered 0 (R0.map rTh)) rfl,lp]
  simp only[Option.bind_some]
  rw[ih]
  have hc:clAll R0 i (a::R)=clRow a i 0 R0++clAll R0 (i+1) R:=rfl
  rw[hc,List.map_append,List.append_assoc]
noncomputable def clsW (R:List Ru):List W:=(sortS (Sg.metS ((clAll R 0 R).map sL))).map fun s=>s.cps.toList
theorem cls_str (R:List Ru):(sortS (Sg.metS ((clAll R 0 R).map sL))).map Th.str=(clsW R).map tS:=by
 have e:((sortS (Sg.metS ((clAll R 0 R).map sL))).map fun s=>s.cps.toList).map sL=sortS (Sg.metS ((clAll R 0 R).map sL)):=by
  rw[List.map_map]
  exact (List.map_congr_left fun s _=>sL_of s).trans (List.map_id _)
 rw[map_tS]
 unfold clsW
 rw[e]
theorem mem_cls {R:List Ru}{u:W}:u∈clsW R↔ClW R u:=by
 have h:∀ s:Str,s∈sortS (Sg.metS ((clAll R 0 R).map sL))↔s∈(clAll R 0 R).map sL:=fun s=>((sortS_ex _).1.mem_iff).trans Sg.mem_metS
 rw[← mem_cl]
 unfold clsW
 rw[List.mem_map]
 constructor
 ·rintro⟨s,hs,rfl⟩
  obtain⟨v,hv,rfl⟩:=List.mem_map.mp ((h s).mp hs)
  exact hv
 ·intro hy
  exact⟨sL u,(h _).mpr (List.mem_map.mpr ⟨u,hy,rfl⟩),rfl⟩
theorem RR.l6 {R:List Ru}(hR:RR R):∀ r∈R,r.1.length≤6:=fun r hr=>(hR.ok r hr).l6
theorem cls_all {R:List Ru}(hR:RR R){u:W}(h:ClW R u):u∈allW:=by
 obtain⟨h1,h2⟩:=cl_word (P:=fun c=>c=97∨c=98∨c=99) (n:=6) (fun r hr=>(hR.ok r hr).la) hR.l6 h
 exact mem_allW.mpr ⟨by lia,h2⟩
theorem clAll_few {R:List Ru}(hR:RR R):(clAll R 0 R).length≤384:=by
 have h1:=clAll_len (R0:=R) (i:=0) hR.l6
 have h2:=hR.few
 have h3:R.length*(R.length*6)≤8*(8*6):=Nat.mul_le_mul h2 (Nat.mul_le_mul_right _ h2)
 lia
theorem clashes_eq {R:List Ru}(hR:RR R):phi_clashes [RT R]=some (.tup ((clsW R).map tS)):=by
 have few:=hR.few
 have hl:∀ r∈R,r.1.length≤100:=fun r hr=>Nat.le_trans (hR.l6 r hr) (by decide)
 obtain⟨y2,y3,y4,y5,lp⟩:=all_loop hl few R 0 [] none none none none hl (by simp; lia)
 unfold phi_clashes b_clashes
 refine runD_rt rfl ?_
 refine (fSeq_nx (d':=[some (Dv.th (RT R)),some (Dv.own []),none,none,none,none]) rfl).trans ?_
 refine (fSeq_nx (d':=[some (Dv.th (RT R)),some (Dv.own ((clAll R 0 R).map tS)),y2,y3,y4,y5]) ?_).trans ?_
 ·rw[fFor_of (ts:=numbered 0 (R.map rTh)) rfl]
  exact lp
 ·have se:=sortset_eq (l:=clAll R 0 R) (by have:=clAll_few hR; lia)
  simp only[fRet,fCB,fCons,fNil,fLst,fSortSet,fVarB,List.getElem?_cons_succ,List.getElem?_cons_zero,Option.bind_some,Option.map_some,se,oTuple,cls_str]
open Classical in
noncomputable def downW (R:List Ru)(w:W):W:=if h:∃ y,Down R w y then h.choose else w
theorem down_of {R:List Ru}{w y:W}(d:Down R w y):downW R w=y:=by
 have h:∃ y,Down R w y:=⟨y,d⟩
 unfold downW
 rw[dif_pos h]
 exact h.choose_spec.det d
theorem end_eq' {R:List Ru}(hR:RR R){w:W}(hw:w∈allW):phi_end [RT R,tS w]=some (tS (downW R w)):=by
 obtain⟨y,d⟩:=down_ex' hR _ w hw rfl
 rw[down_of d]
 exact end_eq hR hw d
theorem down_reach {R:List Ru}(hR:RR R){w:W}(hw:w∈allW):Rch (nxW R) w (downW R w)∧nxW R (downW R w)=[]:=by
 obtain⟨y,d⟩:=down_ex' hR _ w hw rfl
 rw[down_of d]
 exact Down.reach hR d (.refl w)
noncomputable def eonS (R:List Ru)(w:W):List Str:=sortS (Sg.metS (((nxW R w).map (downW R)).map sL))
theorem eon_many {R:List Ru}{w:W}:1<(eonS R w).length↔∃ y z,y∈nxW R w∧z∈nxW R w∧downW R y≠downW R z:=by
 have hm:∀ s:Str,s∈eonS R w↔s∈((nxW R w).map (downW R)).map sL:=fun s=>((sortS_ex _).1.mem_iff).trans Sg.mem_metS
 have hn:(eonS R w).Nodup:=(sortS_ex _).1.nodup_iff.mpr (Sg.metS_nodup _)
 constructor
 ·intro h
  obtain⟨a,b,ha,hb,hne⟩:=two_of hn h
  rw[hm,List.map_map,List.mem_map] at ha hb
  obtain⟨y,hy,rfl⟩:=ha
  obtain⟨z,hz,rfl⟩:=hb
  exact⟨y,z,hy,hz,fun e=>hne (congrArg sL e)⟩
 ·rintro⟨y,z,hy,hz,hne⟩
  refine two_len (a:=sL (downW R y)) (b:=sL (downW R z)) ?_ ?_ fun e=>hne (sL_inj e)
  ·rw[hm,List.map_map,List.mem_map]; exact⟨y,hy,rfl⟩
  ·rw[hm,List.map_map,List.mem_map]; exact⟨z,hz,rfl⟩
theorem eon_eq {R:List Ru}(hR:RR R){w:W}(hw:w∈allW):phi_ends_of_nexts [RT R,tS w]=some (.tup ((eonS R w).map Th.str)):=by
 have w6:=(mem_allW.mp hw).1
 have nl:=nx_len hR w6
 have ne:=nexts_eq (R:=R) (w:=w) hR.small (by lia)
 rw[nx_str] at ne
 unfold phi_ends_of_nexts b_ends_of_nexts
 refine runD_rt rfl ?_
 have c:=fComp_map (fi:=fItems (fCall phi_nexts (fCons (fVar 0) (fCons (fVar 1) fNil)))) (fe:=fCall phi_end (fCons (fVar 1) (fCons (fVar 0) fNil))) (p:=fun t=>match t with | .str x=>tS (downW R x.cps.toList) | _=>.non)
  (d:=[some (Dv.th (RT R)),some (Dv.th (tS w))]) (ts:=(nxW R w).map tS) (by simp only[fItems,fCall,fCons,fNil,fVar,List.getElem?_cons_succ,List.getElem?_cons_zero,Option.bind_some,ne]; rfl) (by rw[List.length_map]; lia) fun t ht=>by
   obtain⟨y,hy,rfl⟩:=List.mem_map.mp ht
   have ee:=end_eq' hR (nx_all hR w hw y hy)
   simp only[fCall,fCons,fNil,fVar,List.getElem?_cons_succ,List.getElem?_cons_zero,Option.bind_some,ee]
   rfl
 have e2:((nxW R w).map tS).map (fun t=>match t with | .str x=>tS (downW R x.cps.toList) | _=>.non)=((nxW R w).map (downW R)).map tS:=by
  rw[List.map_map,List.map_map]
  exact List.map_congr_left fun i _=>rfl
 rw[e2] at c
 have se:=sortset_eq (l:=(nxW R w).map (downW R)) (by rw[List.length_map]; lia)
 show fRet _ [some (Dv.th (RT R)),some (Dv.th (tS w))]=_
 simp only[fRet,fCB,fCons,fNil,fLst,fSortSet,c,Option.bind_some,Option.map_some,se,oTuple]
 rfl
theorem rank_eq {w:W}(h:w.length≤1000000):phi_rank [tS w]=some (.tup [.int (w.length:Int),tS w]):=by
 unfold phi_rank b_rank
 refine runD_rt rfl ?_
 have l1:=len_tS h
 have:=fTup2 (a:=fCB oLen (fCons (fVarB 0) fNil)) (b:=fVar 0) (d:=[some (Dv.th (tS w))]) (x:=.int (w.length:Int)) (y:=tS w) (by simp only[fCB,fCons,fNil,fVarB,List.getElem?_cons_zero,Option.bind_some,l1]) rfl
 show fRet _ [some (Dv.th (tS w))]=_
 simp only[fRet,this,Option.map_some]
def leR (a b:W):Prop:=a.length<b.length∨(a.length=b.length∧leS (sL a) (sL b))
theorem leR_total (a b:W):leR a b∨leR b a:=by
 unfold leR
 rcases leS_total (sL a) (sL b) with h | h
 ·rcases Nat.lt_trichotomy a.length b.length with q | q | q
  ·exact .inl (.inl q)
  ·exact .inl (.inr ⟨q,h⟩)
  ·exact .inr (.inl q)
 ·rcases Nat.lt_trichotomy a.length b.length with q | q | q
  ·exact .inl (.inl q)
  ·exact .inr (.inr ⟨q.symm,h⟩)
  ·exact .inr (.inl q)
theorem leR_trans {a b c:W}(h:leR a b)(h':leR b c):leR a c:=by
 unfold leR at *
 rcases h with h | ⟨h,q⟩
 ·rcases h' with h' | ⟨h',q'⟩
  ·exact .inl (by lia)
  ·exact .inl (by lia)
 ·rcases h' with h' | ⟨h',q'⟩
  ·exact .inl (by lia)
  ·exact .inr ⟨by lia,leS_trans q q'⟩
open Classical in
theorem sortK_eq {l:List W}(hl:∀ w∈l,w.length≤1000000):∃ r:List W,r.Perm l∧sortK phi_rank (l.map tS)=some (r.map tS):=by
 refine⟨l.mergeSort fun a b=>decide (leR a b),List.mergeSort_perm _ _,?_⟩
 have hp:=List.mergeSort_perm l (fun a b=>decide (leR a b))
 have h2:=List.pairwise_mergeSort (le:=fun a b=>decide (leR a b)) (fun a b c h h'=>by simp only[decide_eq_true_eq] at *; exact leR_trans h h') (fun a b=>by simp only[Bool.or_eq_true,decide_eq_true_eq]; exact leR_total a b) l
 refine sortK_of ⟨?_,fun t ht=>?_,fun t ht u hu e=>?_⟩ (hp.map _) (List.pairwise_map.mpr (h2.imp_of_mem fun {a b} ha hb h=>?_))
 ·rw[List.all_map,List.all_eq_true]
  intro x _
  rfl
 ·obtain⟨w,hw,rfl⟩:=List.mem_map.mp ht
  exact⟨_,rank_eq (hl w hw),rfl⟩
 ·obtain⟨w,hw,rfl⟩:=List.mem_map.mp ht
  obtain⟨v,hv,rfl⟩:=List.mem_map.mp hu
  rw[rank_eq (hl w hw),rank_eq (hl v hv)] at e
  injection e with e
  injection e with e
  injection e with _ e
  injection e with e _
 ·refine⟨_,_,rank_eq (hl a (hp.mem_iff.mp ha)),rank_eq (hl b (hp.mem_iff.mp hb)),.is ?_⟩
  rcases of_decide_eq_true h with q | ⟨q,z⟩
  ·exact .inl (by lia)
  ·exact .inr ⟨by lia,z⟩
theorem doubt_loop {R:List Ru}(hR:RR R):∀ (r:List W) (x1:Option Dv),(∀ u∈r,u∈allW) →
  (∃ u∈r,1<(eonS R u).length∧forL (gVar 1) (fIf (fTest (f2 oGt (fCB oLen (fCons (fCall phi_ends_of_nexts (fCons (fVar 0) (fCons (fVar 1) fNil))) fNil)) (fC (.int 1)))) (fRet (fVarB 1)) fNext) (r.map tS) [some (Dv.th (RT R)),x1]=some (.rt (tS u)))
 ∨((∀ u∈r,¬ 1<(eonS R u).length)∧∃ y1,forL (gVar 1) (fIf (fTest (f2 oGt (fCB oLen (fCons (fCall phi_ends_of_nexts (fCons (fVar 0) (fCons (fVar 1) fNil))) fNil)) (fC (.int 1)))) (fRet (fVarB 1)) fNext) (r.map tS) [some (Dv.th (RT R)),x1]=some (.nx [some (Dv.th (RT R)),y1]))
 |[],x1,_=>.inr ⟨(fun u h=>nomatch h),x1,rfl⟩
 |u::r,x1,hr=>by
  have ee:=eon_eq hR (hr u List.mem_cons_self)
  have ih:=doubt_loop hR r (some (Dv.th (tS u))) fun v hv=>hr v (List.mem_cons_of_mem _ hv)
  have g:gVar 1 (tS u) [some (Dv.th (RT R)),x1]=some [some (Dv.th (RT R)),some (Dv.th (tS u))]:=rfl
  have l1:oLen [.tup ((eonS R u).map Th.str)]=some (.int ((eonS R u).length:Int)):=by rw[len_tup,List.length_map]
  have x:(fIf (fTest (f2 oGt (fCB oLen (fCons (fCall phi_ends_of_nexts (fCons (fVar 0) (fCons (fVar 1) fNil))) fNil)) (fC (.int 1)))) (fRet (fVarB 1)) fNext:FS) [some (Dv.th (RT R)),some (Dv.th (tS u))] =
    if 1<(eonS R u).length then some (.rt (tS u)) else some (.nx [some (Dv.th (RT R)),some (Dv.th (tS u))]):=by
   simp only[fIf,fTest,f2,fCB,fCall,fCons,fNil,fVar,fVarB,fC,List.getElem?_cons_succ,List.getElem?_cons_zero,Option.bind_some,ee,l1,gt_int]
   by_cases h:1<(eonS R u).length
   ·have:((1:Int)<((eonS R u).length:Int)):=by lia
    rw[decide_eq_true this,if_pos h,if_pos rfl]
    rfl
   ·have:¬ ((1:Int)<((eonS R u).length:Int)):=by lia
    rw[decide_eq_false this,if_neg h,if_neg (by simp)]
    rfl
  rw[List.map_cons]
  unfold forL
  rw[g,Option.bind_some,x]
  by_cases h:1<(eonS R u).length
  ·rw[if_pos h]
   exact .inl ⟨u,List.mem_cons_self,h,rfl⟩
  ·rw[if_neg h]
   rcases ih with ⟨v,hv,h1,h2⟩ | ⟨h1,y1,h2⟩
   ·exact .inl ⟨v,List.mem_cons_of_mem _ hv,h1,h2⟩
   ·refine .inr ⟨fun v hv=>?_,y1,h2⟩
    rcases List.mem_cons.mp hv with rfl | hv
    ·exact h
    ·exact h1 v hv
theorem doubt_eq {R:List Ru}(hR:RR R):∃ o:Option W,phi_doubt [RT R]=some (foT o)∧(∀ u,o=some u→ClW R u∧1<(eonS R u).length)∧(o=none→∀ u,ClW R u→¬ 1<(eonS R u).length):=by
 have ce:=clashes_eq hR
 have ca:∀ u∈clsW R,u∈allW:=fun u hu=>cls_all hR (mem_cls.mp hu)
 obtain⟨r,rp,sk⟩:=sortK_eq (l:=clsW R) fun u hu=>by
  have:=(mem_allW.mp (ca u hu)).1
  lia
 have it:fItems (fLst (fSortK phi_rank (fCons (fCall phi_clashes (fCons (fVar 0) fNil)) fNil))) [some (Dv.th (RT R)),none]=some (r.map tS):=by
  simp only[fItems,fLst,fSortK,fCons,fNil,fCall,fVar,List.getElem?_cons_zero,Option.bind_some,ce,sk,Option.map_some]
  rfl
 rcases doubt_loop hR r none fun u hu=>ca u (rp.mem_iff.mp hu) with ⟨u,hu,h1,h2⟩ | ⟨h1,y1,h2⟩
 ·refine⟨some u,?_,fun v e=>?_,fun e=>by cases e⟩
  ·unfold phi_doubt b_doubt
   refine runD_rt rfl ?_
   show fSeq _ _ [some (Dv.th (RT R)),none]=_
   unfold fSeq
   rw[fFor_of it,h2]
   rfl
  ·cases e
   exact⟨mem_cls.mp (rp.mem_iff.mp hu),h1⟩
 ·refine⟨none,?_,(fun v e=>by cases e),fun _ u hu=>h1 u (rp.mem_iff.mpr (mem_cls.mpr hu))⟩
  unfold phi_doubt b_doubt
  refine runD_rt rfl ?_
  refine (fSeq_nx (d':=[some (Dv.th (RT R)),y1]) ?_).trans rfl
  show fFor _ _ _ [some (Dv.th (RT R)),none]=_
  rw[fFor_of it,h2]
theorem sure_eq {R:List Ru}{o:Option W}(h:phi_doubt [RT R]=some (foT o)):phi_are_sure [RT R]=some (.bl o.isNone):=by
 unfold phi_are_sure b_are_sure
 refine runD_rt rfl ?_
 show fRet _ [some (Dv.th (RT R))]=_
 simp only[fRet,f2,fCall,fCons,fNil,fVar,fC,List.getElem?_cons_zero,Option.bind_some,h]
 cases o <;> rfl
theorem nx_st {R:List Ru}(hR:RR R):∀ w y,y∈nxW R w↔StW R w y:=fun w y=>mem_nx.trans (mem_steps hR.ne)
theorem sure_one {R:List Ru}(hR:RR R)(h:∀ u,ClW R u→¬ 1<(eonS R u).length){w:W}(hw:w∈allW):OneW (nxW R) w:=by
 refine newman (P:=fun w=>w∈allW) (μ:=val) (fun w hw y hy=>⟨nx_all hR w hw y hy,nx_val hR hw hy⟩) (fun w hw=>?_) w hw
 refine local_joins hR.ne (nx_st hR) (fun u hu y hy z hz=>?_) w
 have ua:=cls_all hR hu
 obtain⟨y1,-⟩:=down_reach hR (nx_all hR u ua y hy)
 obtain⟨z1,-⟩:=down_reach hR (nx_all hR u ua z hz)
 have e:downW R y=downW R z:=by
  by_cases q:downW R y=downW R z
  ·exact q
  ·exact absurd (eon_many.mpr ⟨y,z,hy,hz,q⟩) (h u hu)
 rw[← e] at z1
 exact⟨_,y1,z1⟩
theorem many_two {R:List Ru}(hR:RR R){u:W}(hu:u∈allW)(h:1<(eonS R u).length):∃ a b,Rch (nxW R) u a∧Rch (nxW R) u b∧nxW R a=[]∧nxW R b=[]∧a≠b:=by
 obtain⟨y,z,hy,hz,hne⟩:=eon_many.mp h
 obtain⟨y1,y2⟩:=down_reach hR (nx_all hR u hu y hy)
 obtain⟨z1,z2⟩:=down_reach hR (nx_all hR u hu z hz)
 exact⟨_,_,Rch.trans (.step (.refl u) hy) y1,Rch.trans (.step (.refl u) hz) z1,y2,z2,hne⟩
theorem ends_len {R:List Ru}(v:List W):(endsT R v).length=(v.filter (isE R)).length:=by
 unfold endsT
 rw[List.length_map,(sortS_ex _).1.length_eq,List.length_map]
theorem lends_one {R:List Ru}(hR:RR R){w:W}(hw:w∈allW){v:List W}(k:BfsOk (nxW R) w v.length v)(h:OneW (nxW R) w):(endsT R v).length=1:=by
 rw[ends_len]
 obtain⟨d1,d2⟩:=down_reach hR hw
 have m1:downW R w∈v.filter (isE R):=List.mem_filter.mpr ⟨k.all.mpr d1,isE_iff.mpr d2⟩
 rcases Nat.lt_or_ge 1 (v.filter (isE R)).length with q | q
 ·obtain⟨a,b,ha,hb,hne⟩:=two_of (List.Pairwise.filter _ k.nd) q
  obtain⟨a1,a2⟩:=List.mem_filter.mp ha
  obtain⟨b1,b2⟩:=List.mem_filter.mp hb
  exact absurd (h a b (k.all.mp a1) (k.all.mp b1) (isE_iff.mp a2) (isE_iff.mp b2)) hne
 ·have:=List.length_pos_of_mem m1
  lia
theorem lends_two {R:List Ru}{w:W}{v:List W}(k:BfsOk (nxW R) w v.length v){a b:W}(ha:Rch (nxW R) w a)(hb:Rch (nxW R) w b)(na:nxW R a=[])(nb:nxW R b=[])(h:a≠b):1<(endsT R v).length:=by
 rw[ends_len]
 exact two_len (List.mem_filter.mpr ⟨k.all.mpr ha,isE_iff.mpr na⟩) (List.mem_filter.mpr ⟨k.all.mpr hb,isE_iff.mpr nb⟩) h
def kvB (ks:List Str):List (Str×Th):=ks.map fun s=>(s,Th.bl true)
def addS (ks:List Str)(x:Str):List Str:=if x∈ks then ks else ks++[x]
theorem any_kvB (ks:List Str)(x:Str):((kvB ks).any fun p=>decide (p.1=x))=decide (x∈ks):=by
 unfold kvB
 rw[List.any_map,Bool.eq_iff_iff,List.any_eq_true,decide_eq_true_eq]
 constructor
 ·rintro⟨y,hy,e⟩
  have e:y=x:=of_decide_eq_true e
  rw[← e]; exact hy
 ·intro h
  exact⟨x,h,decide_eq_true rfl⟩
theorem put_kvB (ks:List Str)(x:Str):putS (kvB ks) x (.bl true)=kvB (addS ks x):=by
 unfold putS addS
 rw[any_kvB]
 by_cases h:x∈ks
 ·rw[decide_eq_true h,if_pos rfl,if_pos h]
  unfold kvB
  rw[List.map_map]
  refine List.map_congr_left fun s _=>?_
  simp only[Function.comp]
  split <;> rfl
 ·rw[decide_eq_false h,if_neg (by simp),if_neg h]
  unfold kvB
  rw[List.map_append]
  rfl
theorem mem_add {ks:List Str}{x s:Str}:s∈addS ks x↔s∈ks∨s=x:=by
 unfold addS
 split
 ·rename_i h
  exact⟨.inl,fun z=>z.elim id fun e=>by rw[e]; exact h⟩
 ·simp
theorem add_nodup {ks:List Str}{x:Str}(h:ks.Nodup):(addS ks x).Nodup:=by
 unfold addS
 split
 ·exact h
 ·rename_i hx
  exact List.nodup_append.mpr ⟨h,by simp,fun a ha b hb e=>by rw[List.mem_singleton] at hb; subst hb; subst e; exact hx ha⟩
theorem add_len (ks:List Str)(x:Str):(addS ks x).length≤ks.length+1:=by
 unfold addS
 split
 ·lia
 ·simp
def opW (l m:W)(k n p:Nat):Bool:=(decide (k≠n)||decide (0<p))&&l.isPrefixOf (ovW l m p)
noncomputable abbrev bP:FS:=fSeq (fSet 7 (fSl (fVarB 4) (fPart (fVar 6)) fNoPart))
 (fIf (fAndT (fOrT (fTest (f2 oNe (fVarB 2) (fVarB 3))) (fTest (f2 oGt (fVarB 6) (fC (.int 0))))) (fOrT (fTest (fM1 (fun z y=>some (.bl (Txt.startswith z y))) (fVarB 7) (fVarB 5))) (fTest (fM1 (fun z y=>some (.bl (Txt.startswith z y))) (fVarB 5) (fVarB 7))))) (fIf (fTest (f2 oGt (fCB oLen (fCons (fVarB 5) fNil)) (fCB oLen (fCons (fVarB 7) fNil)))) (fDPut 1 (f2 oPlus (fSl (fVarB 4) fNoPart (fPart (fVar 6))) (fVarB 5)) (fC (.bl true))) (fDPut 1 (fVarB 4) (fC (.bl true)))) fNext)
theorem p_step {t0 x7:Option Dv}{ks:List Str}{l m:W}{k n p:Nat}(hp:p<l.length)(hl:l.length≤1000)(hm:m.length≤1000)(hk:ks.length<1000000) :
  bP [t0,some (.dct false (kvB ks)),some (.th (.int (k:Int))),some (.th (.int (n:Int))),some (.th (tS l)),some (.th (tS m)),some (.th (.int (p:Int))),x7] =
   some (.nx [t0,some (.dct false (kvB (if opW l m k n p=true then addS ks (sL (ovW l m p)) else ks))),some (.th (.int (k:Int))),some (.th (.int (n:Int))),some (.th (tS l)),some (.th (tS m)),some (.th (.int (p:Int))),some (.th (tS (l.drop p)))]):=by
 have s1:=cut_drop l p (by lia)
 have s2:=cut_take l p (by lia)
 refine (fSeq_nx (d':=[t0,some (.dct false (kvB ks)),some (.th (.int (k:Int))),some (.th (.int (n:Int))),some (.th (tS l)),some (.th (tS m)),some (.th (.int (p:Int))),some (.th (tS (l.drop p)))]) ?_).trans ?_
 ·simp only[fSet,fSl,fPart,fNoPart,fVar,fVarB,List.getElem?_cons_succ,List.getElem?_cons_zero,Option.bind_some,Option.map_some,s1,List.set_cons_zero,List.set_cons_succ]
 have c:fAndT (fOrT (fTest (f2 oNe (fVarB 2) (fVarB 3))) (fTest (f2 oGt (fVarB 6) (fC (.int 0))))) (fOrT (fTest (fM1 (fun z y=>some (.bl (Txt.startswith z y))) (fVarB 7) (fVarB 5))) (fTest (fM1 (fun z y=>some (.bl (Txt.startswith z y))) (fVarB 5) (fVarB 7))))
   [t0,some (.dct false (kvB ks)),some (.th (.int (k:Int))),some (.th (.int (n:Int))),some (.th (tS l)),some (.th (tS m)),some (.th (.int (p:Int))),some (.th (tS (l.drop p)))]=some (opW l m k n p):=by
  have e1:=starts_eq (l.drop p) m
  have e2:=starts_eq m (l.drop p)
  have e3:(!((k:Int) == (n:Int)))=decide (k≠n):=by
   by_cases h:k=n
   ·subst h; simp
   ·have:((k:Int) == (n:Int))=false:=beq_eq_false_iff_ne.mpr fun z=>h (by lia)
    rw[this,decide_eq_true h]; rfl
  have e4:decide ((0:Int)<(p:Int))=decide (0<p):=by
   by_cases h:0<p
   ·rw[decide_eq_true h,decide_eq_true (by lia)]
   ·rw[decide_eq_false h,decide_eq_false (by lia)]
  unfold opW
  rw[ov_iff (by lia)]
  simp only[fAndT,fOrT,fTest,fM1,f2,fVarB,fC,tS,List.getElem?_cons_succ,List.getElem?_cons_zero,Option.bind_some,ne_int,gt_int,e1,e2,e3,e4]
  cases decide (k≠n) <;> cases decide (0<p) <;> cases m.isPrefixOf (l.drop p) <;> cases (l.drop p).isPrefixOf m <;> rfl
 unfold fIf
 rw[c,Option.bind_some]
 by_cases ho:opW l m k n p=true
 ·rw[if_pos ho,if_pos ho]
  have hpre:l.isPrefixOf (ovW l m p)=true:=by
   unfold opW at ho
   exact (Bool.and_eq_true _ _ ▸ ho:_∧_).2
  have ow:=ov_word (by lia) hpre
  have l1:=len_tS (a:=m) (by lia)
  have l2:=len_tS (a:=l.drop p) (by rw[List.length_drop]; lia)
  have fl:flatD (.bl true)=true∧(kvB ks).length<1000000:=⟨rfl,by unfold kvB; rw[List.length_map]; exact hk⟩
  simp only[fTest,f2,fCB,fCons,fNil,fVarB,List.getElem?_cons_succ,List.getElem?_cons_zero,Option.bind_some,l1,l2,gt_int]
  by_cases q:(l.drop p).length<m.length
  ·rw[if_pos q] at ow
   have p1:=plus_tS (a:=l.take p) (b:=m) (by rw[List.length_take]; lia)
   rw[decide_eq_true (by lia),if_pos rfl,ow]
   simp only[fDPut,f2,fSl,fPart,fNoPart,fVar,fVarB,fC,List.getElem?_cons_succ,List.getElem?_cons_zero,Option.bind_some,s2,p1]
   simp only[tS,if_pos fl,put_kvB,List.set_cons_zero,List.set_cons_succ]
  ·rw[if_neg q] at ow
   rw[decide_eq_false (by lia),if_neg (by simp),ow]
   simp only[fDPut,fVarB,fC,tS,List.getElem?_cons_succ,List.getElem?_cons_zero,Option.bind_some,if_pos fl,put_kvB,List.set_cons_zero,List.set_cons_succ]
 ·rw[if_neg ho,if_neg ho]
  rfl
theorem p_loop {t0:Option Dv}{l m:W}{k n:Nat}(hl:l.length≤1000)(hm:m.length≤1000):∀ (ps:List Nat) (ks:List Str) (x6 x7:Option Dv),(∀ p∈ps,p<l.length)→ks.length+ps.length≤900000→ks.Nodup →
  ∃ (ks':List Str) (y:Option Dv×Option Dv),forL (gVar 6) bP (ps.map fun (i:Nat)=>Th.int (i:Int)) [t0,some (.dct false (kvB ks)),some (.th (.int (k:Int))),some (.th (.int (n:Int))),some (.th (tS l)),some (.th (tS m)),x6,x7] =
   some (.nx [t0,some (.dct false (kvB ks')),some (.th (.int (k:Int))),some (.th (.int (n:Int))),some (.th (tS l)),some (.th (tS m)),y.1,y.2])∧ks'.Nodup∧ks'.length≤ks.length+ps.length∧∀ s,s∈ks'↔s∈ks∨∃ p∈ps,opW l m k n p=true∧s=sL (ovW l m p)
 |[],ks,x6,x7,_,_,nd=>⟨ks,(x6,x7),rfl,nd,by simp,fun s=>by simp⟩
 |p::ps,ks,x6,x7,hp,hz,nd=>by
  rw[List.length_cons] at hz
  have st:=p_step (t0:=t0) (x7:=x7) (ks:=ks) (k:=k) (n:=n) (hp p List.mem_cons_self) hl hm (by lia)
  have al:=add_len ks (sL (ovW l m p))
  have nl:(if opW l m k n p=true then addS ks (sL (ovW l m p)) else ks).length≤ks.length+1:=by split <;> lia
  obtain⟨ks',y,ih,i1,i2,i3⟩:=p_loop (t0:=t0) (k:=k) (n:=n) hl hm ps (if opW l m k n p=true then addS ks (sL (ovW l m p)) else ks) (some (.th (.int (p:Int)))) (some (.th (tS (l.drop p)))) (fun q hq=>hp q (List.mem_cons_of_mem _ hq)) (by lia) (by split; exact add_nodup nd; exact nd)
  refine⟨ks',y,?_,i1,by rw[List.length_cons]; lia,fun s=>?_⟩
  ·rw[List.map_cons]
   unfold forL
   have g:gVar 6 (.int (p:Int)) [t0,some (.dct false (kvB ks)),some (.th (.int (k:Int))),some (.th (.int (n:Int))),some (.th (tS l)),some (.th (tS m)),x6,x7]=some [t0,some (.dct false (kvB ks)),some (.th (.int (k:Int))),some (.th (.int (n:Int))),some (.th (tS l)),some (.th (tS m)),some (.th (.int (p:Int))),x7]:=rfl
   rw[g,Option.bind_some,st]
   exact ih
  ·rw[i3]
   constructor
   ·rintro (h | ⟨q,hq,h⟩)
    ·split at h
     ·rename_i ho
      rcases mem_add.mp h with h | h
      ·exact .inl h
      ·exact .inr ⟨p,List.mem_cons_self,ho,h⟩
     ·exact .inl h
    ·exact .inr ⟨q,List.mem_cons_of_mem _ hq,h⟩
   ·rintro (h | ⟨q,hq,ho,h⟩)
    ·left
     split
     ·exact mem_add.mpr (.inl h)
     ·exact h
    ·rcases List.mem_cons.mp hq with rfl | hq
     ·left
      rw[if_pos ho]
      exact mem_add.mpr (.inr h)
     ·exact .inr ⟨q,hq,ho,h⟩
noncomputable abbrev bN:FS:=fSeq (fSet 4 (f2 oIx (f2 oIx (fVarB 0) (fVarB 2)) (fC (.int 0)))) (fSeq (fSet 5 (f2 oIx (f2 oIx (fVarB 0) (fVarB 3)) (fC (.int 0)))) (fFor (fRange1 (fCB oLen (fCons (fVarB 4) fNil))) (gVar 6) bP))
theorem n_loop {R:List Ru}(hR:∀ r∈R,r.1.length≤100){a:Ru}{k:Nat}(hk:R[k]?=some a):∀ (is:List Nat) (ks:List Str) (x3 x4 x5 x6 x7:Option Dv),(∀ i∈is,i<R.length)→ks.length+is.length*100≤800000→ks.Nodup →
  ∃ (ks':List Str) (y:Option Dv×Option Dv×Option Dv×Option Dv×Option Dv),forL (gVar 3) bN (is.map fun (i:Nat)=>Th.int (i:Int)) [some (.th (RT R)),some (.dct false (kvB ks)),some (.th (.int (k:Int))),x3,x4,x5,x6,x7] =
   some (.nx [some (.th (RT R)),some (.dct false (kvB ks')),some (.th (.int (k:Int))),y.1,y.2.1,y.2.2.1,y.2.2.2.1,y.2.2.2.2])∧ks'.Nodup∧ks'.length≤ks.length+is.length*100∧∀ s,s∈ks'↔s∈ks∨∃ n∈is,∃ b,R[n]?=some b∧∃ p,p<a.1.length∧opW a.1 b.1 k n p=true∧s=sL (ovW a.1 b.1 p)
 |[],ks,x3,x4,x5,x6,x7,_,_,nd=>⟨ks,(x3,x4,x5,x6,x7),rfl,nd,by simp,fun s=>by simp⟩
 |n::is,ks,x3,x4,x5,x6,x7,hi,hz,nd=>by
  rw[List.length_cons] at hz
  have hn:=hi n List.mem_cons_self
  obtain⟨b,hb⟩:∃ b,R[n]?=some b:=⟨_,List.getElem?_eq_getElem hn⟩
  have la:=hR a (List.mem_of_getElem? hk)
  have lb:=hR b (List.mem_of_getElem? hb)
  obtain⟨k1,z,lp,j1,j2,j3⟩:=p_loop (t0:=some (.th (RT R))) (l:=a.1) (m:=b.1) (k:=k) (n:=n) (by lia) (by lia) (List.range a.1.length) ks x6 x7 (fun p hp=>List.mem_range.mp hp) (by rw[List.length_range]; lia) nd
  rw[List.length_range] at j2
  obtain⟨ks',y,ih,i1,i2,i3⟩:=n_loop hR hk is k1 (some (.th (.int (n:Int)))) (some (.th (tS a.1))) (some (.th (tS b.1))) z.1 z.2 (fun q hq=>hi q (List.mem_cons_of_mem _ hq)) (by lia) j1
  refine⟨ks',y,?_,i1,by rw[List.length_cons]; lia,fun s=>?_⟩
  ·rw[List.map_cons]
   unfold forL
   have g:gVar 3 (.int (n:Int)) [some (.th (RT R)),some (.dct false (kvB ks)),some (.th (.int (k:Int))),x3,x4,x5,x6,x7]=some [some (.th (RT R)),some (.dct false (kvB ks)),some (.th (.int (k:Int))),some (.th (.int (n:Int))),x4,x5,x6,x7]:=rfl
   have ra:=rule_at hk
   have rb:=rule_at hb
   have a0:oIx (rTh a) (.int 0)=some (tS a.1):=rfl
   have b0:oIx (rTh b) (.int 0)=some (tS b.1):=rfl
   have st:bN [some (.th (RT R)),some (.dct false (kvB ks)),some (.th (.int (k:Int))),some (.th (.int (n:Int))),x4,x5,x6,x7]=some (.nx [some (.th (RT R)),some (.dct false (kvB k1)),some (.th (.int (k:Int))),some (.th (.int (n:Int))),some (.th (tS a.1)),some (.th (tS b.1)),z.1,z.2]):=by
    refine (fSeq_nx (d':=[some (.th (RT R)),some (.dct false (kvB ks)),some (.th (.int (k:Int))),some (.th (.int (n:Int))),some (.th (tS a.1)),x5,x6,x7]) ?_).trans ?_
    ·simp only[fSet,f2,fVarB,fC,List.getElem?_cons_succ,List.getElem?_cons_zero,Option.bind_some,Option.map_some,ra,a0,List.set_cons_zero,List.set_cons_succ]
    refine (fSeq_nx (d':=[some (.th (RT R)),some (.dct false (kvB ks)),some (.th (.int (k:Int))),some (.th (.int (n:Int))),some (.th (tS a.1)),some (.th (tS b.1)),x6,x7]) ?_).trans ?_
    ·simp only[fSet,f2,fVarB,fC,List.getElem?_cons_succ,List.getElem?_cons_zero,Option.bind_some,Option.map_some,rb,b0,List.set_cons_zero,List.set_cons_succ]
    have l1:=len_tS (a:=a.1) (by lia)
    have e:fRange1 (fCB oLen (fCons (fVarB 4) fNil)) [some (.th (RT R)),some (.dct false (kvB ks)),some (.th (.int (k:Int))),some (.th (.int (n:Int))),some (.th (tS a.1)),some (.th (tS b.1)),x6,x7]=some (L2.upTo a.1.length):=by
     simp only[fRange1,fCB,fCons,fNil,fVarB,List.getElem?_cons_succ,List.getElem?_cons_zero,Option.bind_some,l1]
     rw[if_pos (by lia),Int.toNat_natCast]
    rw[fFor_of e,upTo_eq]
    exact lp
   rw[g,Option.bind_some,st]
   exact ih
  ·rw[i3,j3]
   constructor
   ·rintro ((h | ⟨p,hp,h⟩) | ⟨q,hq,h⟩)
    ·exact .inl h
    ·exact .inr ⟨n,List.mem_cons_self,b,hb,p,List.mem_range.mp hp,h⟩
    ·exact .inr ⟨q,List.mem_cons_of_mem _ hq,h⟩
   ·rintro (h | ⟨q,hq,b',hb',p,hp,h⟩)
    ·exact .inl (.inl h)
    ·rcases List.mem_cons.mp hq with rfl | hq
     ·rw[hb] at hb'
      cases hb'
      exact .inl (.inr ⟨p,List.mem_range.mpr hp,h⟩)
     ·exact .inr ⟨q,hq,b',hb',p,hp,h⟩
theorem k_loop {R:List Ru}(hR:∀ r∈R,r.1.length≤100)(h8:R.length≤8):∀ (is:List Nat) (ks:List Str) (x2 x3 x4 x5 x6 x7:Option Dv),(∀ i∈is,i<R.length)→ks.length+is.length*800≤700000→ks.Nodup →
  ∃ (ks':List Str) (y:Option Dv×Option Dv×Option Dv×Option Dv×Option Dv×Option Dv),forL (gVar 2) (fFor (fRange1 (fCB oLen (fCons (fVarB 0) fNil))) (gVar 3) bN) (is.map fun (i:Nat)=>Th.int (i:Int)) [some (.th (RT R)),some (.dct false (kvB ks)),x2,x3,x4,x5,x6,x7] =
   some (.nx [some (.th (RT R)),some (.dct false (kvB ks')),y.1,y.2.1,y.2.2.1,y.2.2.2.1,y.2.2.2.2.1,y.2.2.2.2.2])∧ks'.Nodup∧ks'.length≤ks.length+is.length*800∧∀ s,s∈ks'↔s∈ks∨∃ k∈is,∃ a,R[k]?=some a∧∃ n b,R[n]?=some b∧∃ p,p<a.1.length∧opW a.1 b.1 k n p=true∧s=sL (ovW a.1 b.1 p)
 |[],ks,x2,x3,x4,x5,x6,x7,_,_,nd=>⟨ks,(x2,x3,x4,x5,x6,x7),rfl,nd,by simp,fun s=>by simp⟩
 |k::is,ks,x2,x3,x4,x5,x6,x7,hi,hz,nd=>by
  rw[List.length_cons] at hz
  have hk:=hi k List.mem_cons_self
  obtain⟨a,ha⟩:∃ a,R[k]?=some a:=⟨_,List.getElem?_eq_getElem hk⟩
  obtain⟨k1,z,lp,j1,j2,j3⟩:=n_loop hR ha (List.range R.length) ks x3 x4 x5 x6 x7 (fun p hp=>List.mem_range.mp hp) (by rw[List.length_range]; lia) nd
  rw[List.length_range] at j2
  obtain⟨ks',y,ih,i1,i2,i3⟩:=k_loop hR h8 is k1 (some (.th (.int (k:Int)))) z.1 z.2.1 z.2.2.1 z.2.2.2.1 z.2.2.2.2 (fun q hq=>hi q (List.mem_cons_of_mem _ hq)) (by lia) j1
  refine⟨ks',y,?_,i1,by rw[List.length_cons]; lia,fun s=>?_⟩
  ·rw[List.map_cons]
   unfold forL
   have g:gVar 2 (.int (k:Int)) [some (.th (RT R)),some (.dct false (kvB ks)),x2,x3,x4,x5,x6,x7]=some [some (.th (RT R)),some (.dct false (kvB ks)),some (.th (.int (k:Int))),x3,x4,x5,x6,x7]:=rfl
   have e:fRange1 (fCB oLen (fCons (fVarB 0) fNil)) [some (.th (RT R)),some (.dct false (kvB ks)),some (.th (.int (k:Int))),x3,x4,x5,x6,x7]=some (L2.upTo R.length):=by
    have l1:oLen [RT R]=some (.int (R.length:Int)):=by unfold RT; rw[len_tup,List.length_map]
    simp only[fRange1,fCB,fCons,fNil,fVarB,List.getElem?_cons_zero,Option.bind_some,l1]
    rw[if_pos (by lia),Int.toNat_natCast]
   rw[g,Option.bind_some,fFor_of e,upTo_eq,lp]
   exact ih
  ·rw[i3,j3]
   constructor
   ·rintro ((h | ⟨n,-,b,hb,h⟩) | ⟨q,hq,h⟩)
    ·exact .inl h
    ·exact .inr ⟨k,List.mem_cons_self,a,ha,n,b,hb,h⟩
    ·exact .inr ⟨q,List.mem_cons_of_mem _ hq,h⟩
   ·rintro (h | ⟨q,hq,a',ha',n,b,hb,h⟩)
    ·exact .inl (.inl h)
    ·rcases List.mem_cons.mp hq with rfl | hq
     ·rw[ha] at ha'
      cases ha'
      exact .inl (.inr ⟨n,List.mem_range.mpr (List.getElem?_eq_some_iff.mp hb).1,b,hb,h⟩)
     ·exact .inr ⟨q,hq,a',ha',n,b,hb,h⟩
theorem l_clashes_eq {R:List Ru}(hR:RR R):phi_l_clashes [RT R]=some (.tup ((clsW R).map tS)):=by
 have few:=hR.few
 have hl:∀ r∈R,r.1.length≤100:=fun r hr=>Nat.le_trans (hR.l6 r hr) (by decide)
 obtain⟨ks,y,lp,j1,j2,j3⟩:=k_loop hl few (List.range R.length) [] none none none none none none (fun p hp=>List.mem_range.mp hp) (by rw[List.length_range]; simp; lia) List.nodup_nil
 have hm:∀ s,s∈ks↔s∈Sg.metS ((clAll R 0 R).map sL):=fun s=>by
  rw[j3,Sg.mem_metS,List.mem_map]
  constructor
  ·rintro (h | ⟨k,-,a,ha,n,b,hb,p,hp,ho,rfl⟩)
   ·cases h
   ·unfold opW at ho
    rw[Bool.and_eq_true] at ho
    refine⟨_,mem_cl.mpr ⟨k,n,a,b,p,ha,hb,fun e=>?_,hp,rfl,List.isPrefixOf_iff_prefix.mp ho.2⟩,rfl⟩
    have:=ho.1
    rw[decide_eq_false (by simpa using e),Bool.false_or,decide_eq_true_eq] at this
    exact this
  ·rintro⟨u,hu,rfl⟩
   obtain⟨k,n,a,b,p,ha,hb,h,hp,rfl,hpre⟩:=mem_cl.mp hu
   refine .inr ⟨k,List.mem_range.mpr (List.getElem?_eq_some_iff.mp ha).1,a,ha,n,b,hb,p,hp,?_,rfl⟩
   unfold opW
   rw[Bool.and_eq_true]
   refine⟨?_,List.isPrefixOf_iff_prefix.mpr hpre⟩
   by_cases e:k=n
   ·rw[Bool.or_eq_true]; exact .inr (decide_eq_true (h e))
   ·rw[Bool.or_eq_true]; exact .inl (decide_eq_true e)
 have hs:sortS ks=sortS (Sg.metS ((clAll R 0 R).map sL)):=sortS_congr (perm_of_mem j1 (Sg.metS_nodup _) hm)
 unfold phi_l_clashes b_l_clashes
 refine runD_rt rfl ?_
 refine (fSeq_nx (d':=[some (.th (RT R)),some (.dct false (kvB [])),none,none,none,none,none,none]) rfl).trans ?_
 refine (fSeq_nx (d':=[some (.th (RT R)),some (.dct false (kvB ks)),y.1,y.2.1,y.2.2.1,y.2.2.2.1,y.2.2.2.2.1,y.2.2.2.2.2]) ?_).trans ?_
 ·have e:fRange1 (fCB oLen (fCons (fVarB 0) fNil)) [some (.th (RT R)),some (.dct false (kvB [])),none,none,none,none,none,none]=some (L2.upTo R.length):=by
   have l1:oLen [RT R]=some (.int (R.length:Int)):=by unfold RT; rw[len_tup,List.length_map]
   simp only[fRange1,fCB,fCons,fNil,fVarB,List.getElem?_cons_zero,Option.bind_some,l1]
   rw[if_pos (by lia),Int.toNat_natCast]
  rw[fFor_of e,upTo_eq]
  exact lp
 ·have kb:(kvB ks).map (·.1)=ks:=by
   unfold kvB
   rw[List.map_map]
   exact List.map_id _
  simp only[fRet,fCB,fCons,fNil,fLst,fSortD,List.getElem?_cons_succ,List.getElem?_cons_zero,Option.bind_some,Option.map_some,kb,hs,oTuple,cls_str]
open Classical in
noncomputable def manyE (R:List Ru)(w:W):Bool:=decide (∃ a b,Rch (nxW R) w a∧Rch (nxW R) w b∧nxW R a=[]∧nxW R b=[]∧a≠b)
open Classical in
theorem many_iff {R:List Ru}{w:W}:manyE R w=true↔∃ a b,Rch (nxW R) w a∧Rch (nxW R) w b∧nxW R a=[]∧nxW R b=[]∧a≠b:=by
 unfold manyE
 exact decide_eq_true_iff
theorem l_ends_many {R:List Ru}(hR:RR R){w:W}(hw:w∈allW):∃ l:List Th,phi_l_ends [RT R,tS w]=some (.tup l)∧decide (1<l.length)=manyE R w:=by
 obtain⟨v,kv,le⟩:=l_ends_eq hR hw
 refine⟨_,le,?_⟩
 cases hm:manyE R w with
 |true =>
  obtain⟨a,b,ra,rb,na,nb,hne⟩:=many_iff.mp hm
  exact decide_eq_true (lends_two kv ra rb na nb hne)
 |false =>
  have l1:=lends_one hR hw kv fun a b ra rb na nb=>by
   by_cases e:a=b
   ·exact e
   ·rw[many_iff.mpr ⟨a,b,ra,rb,na,nb,e⟩] at hm
    cases hm
  exact decide_eq_false (by lia)
theorem dp_tup (l:List W):dp (.tup (l.map tS))≤100:=by
 show dpL (l.map tS)+1≤100
 rw[dp_tS]; lia
theorem ne_same {T:Th}(h:dp T≤100):oNe T T=some (.bl false):=by
 unfold oNe
 rw[decide_eq_true h,if_pos rfl,eqTh_refl]
 rfl
theorem eq_nil (l:List W):oEq (.lst (l.map tS)) (.lst [])=some (.bl l.isEmpty):=by
 unfold oEq
 rw[if_pos (decide_eq_true (by show dpL (l.map tS)+1≤100; rw[dp_tS]; lia))]
 cases l <;> rfl
theorem holds:∀ ns:List Int,ns.length≤63→phi_law [.lst (ns.map Th.int)]=some (.bl true):=by
 intro ns _
 obtain⟨n0,-,-,m0⟩:=mixed_eq ns 0 (by decide)
 obtain⟨ts,e0,p0,l0⟩:=rules_eq n0
 obtain⟨R,rfl,ok⟩:=rules_of p0
 have hR:RR R:=⟨by rw[List.length_map] at l0; lia,ok⟩
 have e0:phi_l_rules [.int n0]=some (RT R):=e0
 have ce:=clashes_eq hR
 have lc:=l_clashes_eq hR
 obtain⟨o,de,d1,d2⟩:=doubt_eq hR
 have se:=sure_eq de
 unfold phi_law b_law
 refine runD_rt rfl ?_
 refine (fSeq_nx (d':=[some (Dv.th (.lst (ns.map Th.int))),some (Dv.th (RT R)),none]) ?_).trans ?_
 ·simp only[fSet,fCall,fCons,fNil,fVar,fC,List.map,List.length,List.replicate,List.cons_append,List.nil_append,List.getElem?_cons_succ,List.getElem?_cons_zero,Option.bind_some,Option.map_some,m0,e0,List.set_cons_zero,List.set_cons_succ]
 refine (fSeq_nx (d':=[some (Dv.th (.lst (ns.map Th.int))),some (Dv.th (RT R)),some (Dv.th (.tup ((clsW R).map tS)))]) ?_).trans ?_
 ·simp only[fSet,fCall,fCons,fNil,fVar,List.getElem?_cons_succ,List.getElem?_cons_zero,Option.bind_some,Option.map_some,ce,List.set_cons_zero,List.set_cons_succ]
 refine (fSeq_nx (d':=[some (Dv.th (.lst (ns.map Th.int))),some (Dv.th (RT R)),some (Dv.th (.tup ((clsW R).map tS)))]) ?_).trans ?_
 ·have q:=ne_same (dp_tup (clsW R))
  simp only[fIf,fTest,f2,fVarB,fVar,fCall,fCons,fNil,List.getElem?_cons_succ,List.getElem?_cons_zero,Option.bind_some,lc,q,Bool.false_eq_true,if_false,fNext]
 have cl:(clsW R).length≤384:=by
  unfold clsW
  rw[List.length_map,(sortS_ex _).1.length_eq]
  have h1:=Sg.metS_len ((clAll R 0 R).map sL)
  rw[List.length_map] at h1
  exact Nat.le_trans h1 (clAll_few hR)
 have c:=fComp_filter (fi:=fItems (fVar 2)) (ft:=fTest (f2 oGt (fCB oLen (fCons (fCall phi_l_ends (fCons (fVar 2) (fCons (fVar 0) fNil))) fNil)) (fC (.int 1)))) (q:=fun t=>match t with | .str x=>manyE R x.cps.toList | _=>false) (ts:=(clsW R).map tS)
  (d:=[some (Dv.th (.lst (ns.map Th.int))),some (Dv.th (RT R)),some (Dv.th (.tup ((clsW R).map tS)))]) rfl (by rw[List.length_map]; lia) fun t ht=>by
   obtain⟨u,hu,rfl⟩:=List.mem_map.mp ht
   obtain⟨l,le,lm⟩:=l_ends_many hR (cls_all hR (mem_cls.mp hu))
   have l3:oLen [.tup l]=some (.int (l.length:Int)):=len_tup
   have q1:decide ((1:Int)<(l.length:Int))=manyE R u:=by
    rw[← lm]
    by_cases h:1<l.length
    ·rw[decide_eq_true h,decide_eq_true (by lia)]
    ·rw[decide_eq_false h,decide_eq_false (by lia)]
   simp only[fTest,f2,fCB,fCons,fNil,fCall,fVar,fC,List.getElem?_cons_succ,List.getElem?_cons_zero,Option.bind_some,le,l3,gt_int,q1]
   rfl
 have e2:((clsW R).map tS).filter (fun t=>match t with | .str x=>manyE R x.cps.toList | _=>false)=((clsW R).filter (manyE R)).map tS:=by
  rw[List.filter_map]
  rfl
 rw[e2] at c
 have q2:=eq_nil ((clsW R).filter (manyE R))
 have q3:((clsW R).filter (manyE R)).isEmpty=o.isNone:=by
  cases o with
  |none =>
   have:(clsW R).filter (manyE R)=[]:=List.filter_eq_nil_iff.mpr fun u hu hm=>by
    obtain⟨a,b,ra,rb,na,nb,hne⟩:=many_iff.mp hm
    exact hne (sure_one hR (d2 rfl) (cls_all hR (mem_cls.mp hu)) a b ra rb na nb)
   rw[this]
   rfl
  |some u =>
   obtain⟨cu,mu⟩:=d1 u rfl
   have:u∈(clsW R).filter (manyE R):=List.mem_filter.mpr ⟨mem_cls.mpr cu,many_iff.mpr (many_two hR (cls_all hR cu) mu)⟩
   cases h:(clsW R).filter (manyE R) with
   |nil=>rw[h] at this; cases this
   |cons=>rfl
 rw[q3] at q2
 simp only[fRet,f2,fLst,c,fCall,fCons,fNil,fVar,fC,List.getElem?_cons_succ,List.getElem?_cons_zero,Option.bind_some,Option.map_some,se,q2,eq_bl]
 simp
end K22
namespace K22
open PySem PySem.Spec PyProof.Rows L2
def top (i:Nat):Stmt:=PySem.Challenge.pw_wordmelt_k22_whole_clashes_tell_all.main.body.getD i (.Pass ⟨0,0,0,0⟩)
structure Mg (mg:Str→Option Value):Prop where
 m_enumerate:mg "enumerate"=none
 m_len:mg "len"=none
 m_min:mg "min"=none
 m_range:mg "range"=none
 m_set:mg "set"=none
 m_sorted:mg "sorted"=none
 m_tuple:mg "tuple"=none
local macro_rules | `(tactic| walk_at "l")=>`(tactic| first | exact Or.inl rfl | exact Or.inr rfl)
section
variable {P:Program}{w:World}{K:PySem.W.Frag}{mg:Str→Option Value}{base:Heap}
abbrev s_l_drawn:Stmt:=top 19
theorem sc_l_drawn:FnScope ["_law_number","_law_k","_law_drawn_here"] ["_law_number","_law_k"] (defScope s_l_drawn):=⟨rfl,rfl,rfl,by decide +kernel,rfl,by decide +kernel,by decide +kernel⟩
theorem ok_l_drawn (m:Mg mg) {f:Addr} {fd:FuncData} (F:Fun K "_law_drawn" "_law_drawn" s_l_drawn f fd):FnOk P w K mg base CX0 1 f fd ["_law_number","_law_k"] (spF K phi_l_drawn):=by
 have nd:=sc_l_drawn.nd
 exact Fun.okQ F sc_l_drawn rfl rfl fun cdv A outer s H E hr=>(qpdss_cons (qpds_set (i:=2) nd (by rfl) (by walk_at "l") (qpd_mod (QD.pb (qpd_times (QD.pb (qpd_plus (QD.pb (qpd_plus (qpb_var (qv 0)) (QD.pb (qpd_times (QD.pb qpd_int) (qpb_var (qv 1)))))) (QD.pb qpd_int))) (QD.pb qpd_int))) (QD.pb qpd_int))) (qpdss_one (qpds_ret (QD.pb (qpd_mod (QD.pb (qpd_plus (QD.pb (qpd_plus (QD.pb (qpd_times (qpb_var (qv 2)) (qpb_var (qv 2)))) (QD.pb (qpd_times (QD.pb qpd_int) (qpb_var (qv 2)))))) (qpb_var (qv 1)))) (QD.pb qpd_int))))))
abbrev s_l_tame:Stmt:=top 23
theorem sc_l_tame:FnScope ["_law_number","_law_letters","_law_found","_law_k","_law_letter","_law_drawn_here"] ["_law_number","_law_letters"] (defScope s_l_tame):=⟨rfl,rfl,rfl,by decide +kernel,rfl,by decide +kernel,by decide +kernel⟩
theorem ok_l_tame (m:Mg mg) {f:Addr} {fd:FuncData} (F:Fun K "_law_tame" "_law_tame" s_l_tame f fd) (c_l_drawn:Callee P w K mg base 1 "_law_drawn" phi_l_drawn):FnOk P w K mg base CX0 2 f fd ["_law_number","_law_letters"] (spF K phi_l_tame):=by
 have nd:=sc_l_tame.nd
 exact Fun.okQ F sc_l_tame rfl rfl fun cdv A outer s H E hr=>(qpdss_cons (qpds_own (i:=2) nd (by rfl) (by walk_at "l") (qpf_slice (QD.pb (qpd_lit (.lst (.cons (.tup (.cons .str (.cons .str .nil)) (by decide)) (.cons (.tup (.cons .str (.cons .str .nil)) (by decide)) (.cons (.tup (.cons .str (.cons .str .nil)) (by decide)) .nil))) (by decide)))) qpdo_none (qpdo_some (qpd_sub (QD.pb (qpd_times (QD.pb qpd_int) (QD.pb (qpd_len (by rfl) m.m_len (qpba_cons (qpb_var (qv 1)) qpba_nil))))) (QD.pb qpd_int))))) (qpdss_cons (qpds_if (qpdt_eq hr (QD.pb (qpd_mod (qpb_var (qv 0)) (QD.pb qpd_int))) (QD.pb qpd_int)) (qpdss_one (qpds_own (i:=2) nd (by rfl) (by walk_at "l") (qpf_slice (qpb_var (qv 2)) qpdo_none (qpdo_some (qpd_mod (QD.pb (qpd_fdiv (qpb_var (qv 0)) (QD.pb qpd_int))) (QD.pb qpd_int)))))) qpdss_nil) (qpdss_cons (qpds_for PassesOwn.never (by rfl) (qpdi_enum (by rfl) m.m_enumerate (qpd_var (qv 1))) (qpdg_two (i:=3) (j:=4) (by rfl) nd (by rfl) (by rfl) (by walk_at "l") (by walk_at "l")) (qpdss_cons (qpds_set (i:=5) nd (by rfl) (by walk_at "l") (qpd_call c_l_drawn (hr.mono (by decide)) (by rfl) (qpda_cons (qpd_var (qv 0)) (qpda_cons (qpd_var (qv 3)) qpda_nil)))) (qpdss_one (qpds_if (qpdt_gt (QD.pb (qpd_mod (qpb_var (qv 5)) (QD.pb qpd_int))) (QD.pb qpd_int)) (qpdss_one (qpds_append (i:=2) (qv 2) (qpd_tup (qpda_cons (qpd_times (qpb_var (qv 4)) (QD.pb (qpd_plus (QD.pb qpd_int) (QD.pb (qpd_mod (QD.pb (qpd_fdiv (qpb_var (qv 5)) (QD.pb qpd_int))) (QD.pb qpd_int)))))) (qpda_cons (qpd_times (qpb_var (qv 4)) (QD.pb (qpd_mod (QD.pb (qpd_fdiv (qpb_var (qv 5)) (QD.pb qpd_int))) (QD.pb qpd_int)))) qpda_nil))))) qpdss_nil)))) (qpdss_one (qpds_ret (qpb_var (qv 2)))))))
abbrev s_l_word:Stmt:=top 20
theorem sc_l_word:FnScope ["_law_number","_law_letters","_law_most","_law_found","_law_k"] ["_law_number","_law_letters","_law_most"] (defScope s_l_word):=⟨rfl,rfl,rfl,by decide +kernel,rfl,by decide +kernel,by decide +kernel⟩
theorem ok_l_word (m:Mg mg) {f:Addr} {fd:FuncData} (F:Fun K "_law_word" "_law_word" s_l_word f fd) (c_l_drawn:Callee P w K mg base 1 "_law_drawn" phi_l_drawn):FnOk P w K mg base CX0 2 f fd ["_law_number","_law_letters","_law_most"] (spF K phi_l_word):=by
 have nd:=sc_l_word.nd
 exact Fun.okQ F sc_l_word rfl rfl fun cdv A outer s H E hr=>(qpdss_cons (qpds_set (i:=3) nd (by rfl) (by walk_at "l") qpd_str) (qpdss_cons (qpds_for PassesOwn.never (by rfl) (qpdi_range1 (by rfl) m.m_range (qpd_mod (qpb_var (qv 0)) (QD.pb (qpd_plus (qpb_var (qv 2)) (QD.pb qpd_int))))) (qpdg_var (i:=4) nd (by rfl) (by walk_at "l")) (qpdss_one (qpds_set (i:=3) nd (by rfl) (by walk_at "l") (qpd_plus (qpb_var (qv 3)) (QD.pb (qpd_ix (qpb_var (qv 1)) (QD.pb (qpd_mod (QD.pb (qpd_fdiv (QD.pb (qpd_call c_l_drawn (hr.mono (by decide)) (by rfl) (qpda_cons (qpd_var (qv 0)) (qpda_cons (qpd_var (qv 4)) qpda_nil)))) (QD.pb qpd_int))) (QD.pb (qpd_len (by rfl) m.m_len (qpba_cons (qpb_var (qv 1)) qpba_nil))))) (fun _ _=>rfl))))))) (qpdss_one (qpds_ret (qpb_var (qv 3))))))
abbrev s_l_less:Stmt:=top 21
theorem sc_l_less:FnScope ["_law_one","_law_other"] ["_law_one","_law_other"] (defScope s_l_less):=⟨rfl,rfl,rfl,by decide +kernel,rfl,by decide +kernel,by decide +kernel⟩
theorem ok_l_less (m:Mg mg) {f:Addr} {fd:FuncData} (F:Fun K "_law_less" "_law_less" s_l_less f fd):FnOk P w K mg base CX0 1 f fd ["_law_one","_law_other"] (spF K phi_l_less):=by
 have nd:=sc_l_less.nd
 exact Fun.okQ F sc_l_less rfl rfl fun cdv A outer s H E hr=>(qpdss_one (qpds_ret (QD.pb (qpd_lt hr (QD.pb (qpd_tup (qpda_cons (qpd_len (by rfl) m.m_len (qpba_cons (qpb_var (qv 0)) qpba_nil)) (qpda_cons (qpd_var (qv 0)) qpda_nil)))) (QD.pb (qpd_tup (qpda_cons (qpd_len (by rfl) m.m_len (qpba_cons (qpb_var (qv 1)) qpba_nil)) (qpda_cons (qpd_var (qv 1)) qpda_nil))))))))
abbrev s_l_rule:Stmt:=top 22
theorem sc_l_rule:FnScope ["_law_number","_law_letters","_law_left","_law_right"] ["_law_number","_law_letters"] (defScope s_l_rule):=⟨rfl,rfl,rfl,by decide +kernel,rfl,by decide +kernel,by decide +kernel⟩
theorem ok_l_rule (m:Mg mg) {f:Addr} {fd:FuncData} (F:Fun K "_law_rule" "_law_rule" s_l_rule f fd) (c_l_word:Callee P w K mg base 2 "_law_word" phi_l_word) (c_l_drawn:Callee P w K mg base 1 "_law_drawn" phi_l_drawn) (c_l_less:Callee P w K mg base 1 "_law_less" phi_l_less):FnOk P w K mg base CX0 3 f fd ["_law_number","_law_letters"] (spF K phi_l_rule):=by
 have nd:=sc_l_rule.nd
 exact Fun.okQ F sc_l_rule rfl rfl fun cdv A outer s H E hr=>(qpdss_cons (qpds_set (i:=2) nd (by rfl) (by walk_at "l") (qpd_plus (QD.pb (qpd_call c_l_word (hr.mono (by decide)) (by rfl) (qpda_cons (qpd_plus (QD.pb (qpd_plus (QD.pb (qpd_times (QD.pb qpd_int) (QD.pb (qpd_fdiv (qpb_var (qv 0)) (QD.pb qpd_int))))) (QD.pb qpd_int))) (QD.pb (qpd_mod (qpb_var (qv 0)) (QD.pb qpd_int)))) (qpda_cons (qpd_var (qv 1)) (qpda_cons qpd_int qpda_nil))))) (QD.pb (qpd_ix (qpb_var (qv 1)) (QD.pb (qpd_mod (QD.pb (qpd_fdiv (qpb_var (qv 0)) (QD.pb qpd_int))) (QD.pb (qpd_len (by rfl) m.m_len (qpba_cons (qpb_var (qv 1)) qpba_nil))))) (fun _ _=>rfl))))) (qpdss_cons (qpds_if (qpdt_eq hr (QD.pb (qpd_mod (QD.pb (qpd_fdiv (qpb_var (qv 0)) (QD.pb qpd_int))) (QD.pb qpd_int))) (QD.pb qpd_int)) (qpdss_one (qpds_set (i:=2) nd (by rfl) (by walk_at "l") (qpd_slice (QD.pb (qpd_times (qpb_var (qv 2)) (QD.pb qpd_int))) qpdo_none (qpdo_some qpd_int)))) qpdss_nil) (qpdss_cons (qpds_set (i:=3) nd (by rfl) (by walk_at "l") (qpd_call c_l_word (hr.mono (by decide)) (by rfl) (qpda_cons (qpd_call c_l_drawn (hr.mono (by decide)) (by rfl) (qpda_cons (qpd_var (qv 0)) (qpda_cons qpd_int qpda_nil))) (qpda_cons (qpd_var (qv 1)) (qpda_cons (qpd_len (by rfl) m.m_len (qpba_cons (qpb_var (qv 2)) qpba_nil)) qpda_nil))))) (qpdss_cons (qpds_if (qpdt_not (qpdt_val (qpd_call c_l_less (hr.mono (by decide)) (by rfl) (qpda_cons (qpd_var (qv 3)) (qpda_cons (qpd_var (qv 2)) qpda_nil))))) (qpdss_one (qpds_set (i:=3) nd (by rfl) (by walk_at "l") (qpd_slice (qpb_var (qv 3)) (qpdo_some qpd_int) (qpdo_some (qpd_len (by rfl) m.m_len (qpba_cons (qpb_var (qv 2)) qpba_nil)))))) qpdss_nil) (qpdss_one (qpds_ret (QD.pb (qpd_tup (qpda_cons (qpd_var (qv 2)) (qpda_cons (qpd_var (qv 3)) qpda_nil))))))))))
abbrev s_l_rules:Stmt:=top 24
theorem sc_l_rules:FnScope ["_law_number","_law_letters","_law_found","_law_by"] ["_law_number"] (defScope s_l_rules):=⟨rfl,rfl,rfl,by decide +kernel,rfl,by decide +kernel,by decide +kernel⟩
theorem ok_l_rules (m:Mg mg) {f:Addr} {fd:FuncData} (F:Fun K "_law_rules" "_law_rules" s_l_rules f fd) (c_l_tame:Callee P w K mg base 2 "_law_tame" phi_l_tame) (c_l_rule:Callee P w K mg base 3 "_law_rule" phi_l_rule) (c_l_drawn:Callee P w K mg base 1 "_law_drawn" phi_l_drawn):FnOk P w K mg base CX0 4 f fd ["_law_number"] (spF K phi_l_rules):=by
 have nd:=sc_l_rules.nd
 exact Fun.okQ F sc_l_rules rfl rfl fun cdv A outer s H E hr=>(qpdss_cons (qpds_set (i:=1) nd (by rfl) (by walk_at "l") (qpd_ix (QD.pb (qpd_lit (.tup (.cons .str (.cons .str .nil)) (by decide)))) (QD.pb (qpd_mod (QD.pb (qpd_fdiv (qpb_var (qv 0)) (QD.pb qpd_int))) (QD.pb qpd_int))) (fun _ _=>rfl))) (qpdss_cons (qpds_set (i:=2) nd (by rfl) (by walk_at "l") (qpd_call c_l_tame (hr.mono (by decide)) (by rfl) (qpda_cons (qpd_fdiv (qpb_var (qv 0)) (QD.pb qpd_int)) (qpda_cons (qpd_var (qv 1)) qpda_nil)))) (qpdss_cons (qpds_if (qpdt_gt (QD.pb (qpd_mod (qpb_var (qv 0)) (QD.pb qpd_int))) (QD.pb qpd_int)) (qpdss_one (qpds_comp1T (i:=2) nd (by rfl) (by walk_at "l") (by rfl) (compS (N:=["_law_number","_law_letters","_law_found","_law_by"]) (sc:=defScope s_l_rules) (by rfl) (by rfl) (by decide +kernel)) (show (["_law_k","_law_number","_law_letters","_law_found","_law_by"]:List Str).Nodup by decide +kernel) (by rfl) (qpdi_range1 (by rfl) m.m_range (qpd_mod (QD.pb (qpd_fdiv (qpb_var (qv 0)) (QD.pb qpd_int))) (QD.pb qpd_int))) (fun _ _ _ _ _=>qpdif_nil) (fun _ _ _ _ _=>(qpd_call c_l_rule (hr.mono (by decide)) (by rfl) (qpda_cons (qpd_call c_l_drawn (hr.mono (by decide)) (by rfl) (qpda_cons (qpd_var (qv 1)) (qpda_cons (qpd_plus (QD.pb qpd_int) (qpb_var (qv 0))) qpda_nil))) (qpda_cons (qpd_var (qv 2)) qpda_nil)))))) (qpdss_one (qpds_if (qpdt_eq hr (QD.pb (qpd_mod (qpb_var (qv 0)) (QD.pb qpd_int))) (QD.pb qpd_int)) (qpdss_one (qpds_set (i:=2) nd (by rfl) (by walk_at "l") (qpd_plus (qpb_var (qv 2)) (QD.pb (QF.pd (qpf_list (qpda_cons (qpd_call c_l_rule (hr.mono (by decide)) (by rfl) (qpda_cons (qpd_call c_l_drawn (hr.mono (by decide)) (by rfl) (qpda_cons (qpd_var (qv 0)) (qpda_cons qpd_int qpda_nil))) (qpda_cons (qpd_var (qv 1)) qpda_nil))) qpda_nil))))))) qpdss_nil))) (qpdss_cons (qpds_set (i:=3) nd (by rfl) (by walk_at "l") (qpd_mod (QD.pb (qpd_fdiv (qpb_var (qv 0)) (QD.pb qpd_int))) (QD.pb qpd_int))) (qpdss_one (qpds_ret (QD.pb (qpd_tuple (by rfl) m.m_tuple (qpba_cons (QD.pb (qpd_plus (QD.pb (qpd_slice (qpb_var (qv 2)) (qpdo_some (qpd_var (qv 3))) qpdo_none)) (QD.pb (qpd_slice (qpb_var (qv 2)) qpdo_none (qpdo_some (qpd_var (qv 3))))))) qpba_nil)))))))))
abbrev s_overlay:Stmt:=top 12
theorem sc_overlay:FnScope ["left","other","place"] ["left","other","place"] (defScope s_overlay):=⟨rfl,rfl,rfl,by decide +kernel,rfl,by decide +kernel,by decide +kernel⟩
theorem ok_overlay (m:Mg mg) {f:Addr} {fd:FuncData} (F:Fun K "overlay" "overlay" s_overlay f fd):FnOk P w K mg base CX0 1 f fd ["left","other","place"] (spF K phi_overlay):=by
 have nd:=sc_overlay.nd
 exact Fun.okQ F sc_overlay rfl rfl fun cdv A outer s H E hr=>(qpdss_one (qpds_ret (QD.pb (qpd_plus (QD.pb (qpd_plus (QD.pb (qpd_slice (qpb_var (qv 0)) qpdo_none (qpdo_some (qpd_var (qv 2))))) (qpb_var (qv 1)))) (QD.pb (qpd_slice (qpb_var (qv 0)) (qpdo_some (qpd_plus (qpb_var (qv 2)) (QD.pb (qpd_len (by rfl) m.m_len (qpba_cons (qpb_var (qv 1)) qpba_nil))))) qpdo_none))))))
abbrev s_overlays:Stmt:=top 11
theorem sc_overlays:FnScope ["left","other","start","words"] ["left","other","start"] (defScope s_overlays):=⟨rfl,rfl,rfl,by decide +kernel,rfl,by decide +kernel,by decide +kernel⟩
theorem ok_overlays (m:Mg mg) {f:Addr} {fd:FuncData} (F:Fun K "overlays" "overlays" s_overlays f fd) (c_overlay:Callee P w K mg base 1 "overlay" phi_overlay):FnOk P w K mg base CX0 2 f fd ["left","other","start"] (spF K phi_overlays):=by
 have nd:=sc_overlays.nd
 exact Fun.okQ F sc_overlays rfl rfl fun cdv A outer s H E hr=>(qpdss_cons (qpds_comp1T (i:=3) nd (by rfl) (by walk_at "l") (by rfl) (compS (N:=["left","other","start","words"]) (sc:=defScope s_overlays) (by rfl) (by rfl) (by decide +kernel)) (show (["place","left","other","start","words"]:List Str).Nodup by decide +kernel) (by rfl) (qpdi_range2 (by rfl) m.m_range (qpd_var (qv 2)) (qpd_len (by rfl) m.m_len (qpba_cons (qpb_var (qv 0)) qpba_nil))) (fun _ _ _ _ _=>qpdif_nil) (fun _ _ _ _ _=>(qpd_call c_overlay (hr.mono (by decide)) (by rfl) (qpda_cons (qpd_var (qv 1)) (qpda_cons (qpd_var (qv 2)) (qpda_cons (qpd_var (qv 0)) qpda_nil)))))) (qpdss_one (qpds_ret (QD.pb (QF.pd (qpf_comp1 (by rfl) (compS (N:=["left","other","start","words"]) (sc:=defScope s_overlays) (by rfl) (by rfl) (by decide +kernel)) (show (["word","left","other","start","words"]:List Str).Nodup by decide +kernel) (by rfl) (qpdi_any (qpd_var (qv 3))) (fun _ _ _ _ _=>qpdif_one (qpdt_val (qpd_starts (qpb_var (qv 0)) (qpb_var (qv 1))))) (fun _ _ _ _ _=>(qpd_var (qv 0)))))))))
abbrev s_clashes:Stmt:=top 10
theorem sc_clashes:FnScope ["rules","found","i","rule","j","other"] ["rules"] (defScope s_clashes):=⟨rfl,rfl,rfl,by decide +kernel,rfl,by decide +kernel,by decide +kernel⟩
theorem ok_clashes (m:Mg mg) {f:Addr} {fd:FuncData} (F:Fun K "clashes" "clashes" s_clashes f fd) (c_overlays:Callee P w K mg base 2 "overlays" phi_overlays):FnOk P w K mg base CX0 3 f fd ["rules"] (spF K phi_clashes):=by
 have nd:=sc_clashes.nd
 exact Fun.okQ F sc_clashes rfl rfl fun cdv A outer s H E hr=>(qpdss_cons (qpds_own (i:=1) nd (by rfl) (by walk_at "l") (qpf_lit .nil (by decide))) (qpdss_cons (qpds_for PassesOwn.never (by rfl) (qpdi_enum (by rfl) m.m_enumerate (qpd_var (qv 0))) (qpdg_two (i:=2) (j:=3) (by rfl) nd (by rfl) (by rfl) (by walk_at "l") (by walk_at "l")) (qpdss_one (qpds_for PassesOwn.never (by rfl) (qpdi_enum (by rfl) m.m_enumerate (qpd_var (qv 0))) (qpdg_two (i:=4) (j:=5) (by rfl) nd (by rfl) (by rfl) (by walk_at "l") (by walk_at "l")) (qpdss_one (qpds_extend (i:=1) (qv 1) (QD.pb (qpd_call c_overlays (hr.mono (by decide)) (by rfl) (qpda_cons (qpd_ix (qpb_var (qv 3)) (QD.pb qpd_int) (fun _ _=>rfl)) (qpda_cons (qpd_ix (qpb_var (qv 5)) (QD.pb qpd_int) (fun _ _=>rfl)) (qpda_cons (qpd_if (qpdt_eq hr (qpb_var (qv 2)) (qpb_var (qv 4))) qpd_int qpd_int) qpda_nil)))))))))) (qpdss_one (qpds_ret (QD.pb (qpd_tuple (by rfl) m.m_tuple (qpba_cons (QD.pb (QF.pd (qpf_sortSet (by rfl) (by rfl) m.m_sorted (by rfl) m.m_set (qpba_cons (qpb_var (qv 1)) qpba_nil)))) qpba_nil)))))))
abbrev s_l_cell_at:Stmt:=top 17
theorem sc_l_cell_at:FnScope ["_law_script","_law_k"] ["_law_script","_law_k"] (defScope s_l_cell_at):=⟨rfl,rfl,rfl,by decide +kernel,rfl,by decide +kernel,by decide +kernel⟩
theorem ok_l_cell_at (m:Mg mg) {f:Addr} {fd:FuncData} (F:Fun K "_law_cell_at" "_law_cell_at" s_l_cell_at f fd):FnOk P w K mg base CX0 1 f fd ["_law_script","_law_k"] (spF K phi_l_cell_at):=by
 have nd:=sc_l_cell_at.nd
 exact Fun.okQ F sc_l_cell_at rfl rfl fun cdv A outer s H E hr=>(qpdss_cons (qpds_if (qpdt_lt hr (qpb_var (qv 1)) (QD.pb (qpd_len (by rfl) m.m_len (qpba_cons (qpb_var (qv 0)) qpba_nil)))) (qpdss_one (qpds_ret (QD.pb (qpd_ix (qpb_var (qv 0)) (qpb_var (qv 1)) (fun _ _=>rfl))))) qpdss_nil) (qpdss_one (qpds_ret (QD.pb qpd_int))))
abbrev s_l_mixed:Stmt:=top 18
theorem sc_l_mixed:FnScope ["_law_script","_law_k","_law_drawn_here"] ["_law_script","_law_k"] (defScope s_l_mixed):=⟨rfl,rfl,rfl,by decide +kernel,rfl,by decide +kernel,by decide +kernel⟩
theorem ok_l_mixed (m:Mg mg) {f:Addr} {fd:FuncData} (F:Fun K "_law_mixed" "_law_mixed" s_l_mixed f fd) (c_l_cell_at:Callee P w K mg base 1 "_law_cell_at" phi_l_cell_at):FnOk P w K mg base CX0 2 f fd ["_law_script","_law_k"] (spF K phi_l_mixed):=by
 have nd:=sc_l_mixed.nd
 exact Fun.okQ F sc_l_mixed rfl rfl fun cdv A outer s H E hr=>(qpdss_cons (qpds_set (i:=2) nd (by rfl) (by walk_at "l") (qpd_mod (QD.pb (qpd_times (QD.pb (qpd_plus (QD.pb (qpd_plus (QD.pb (qpd_call c_l_cell_at (hr.mono (by decide)) (by rfl) (qpda_cons (qpd_var (qv 0)) (qpda_cons (qpd_var (qv 1)) qpda_nil)))) (QD.pb (qpd_times (QD.pb qpd_int) (qpb_var (qv 1)))))) (QD.pb qpd_int))) (QD.pb qpd_int))) (QD.pb qpd_int))) (qpdss_one (qpds_ret (QD.pb (qpd_mod (QD.pb (qpd_plus (QD.pb (qpd_plus (QD.pb (qpd_times (qpb_var (qv 2)) (qpb_var (qv 2)))) (QD.pb (qpd_times (QD.pb qpd_int) (qpb_var (qv 2)))))) (qpb_var (qv 1)))) (QD.pb qpd_int))))))
abbrev s_l_clashes:Stmt:=top 29
theorem sc_l_clashes:FnScope ["_law_rules_here","_law_found","_law_k","_law_n","_law_one","_law_other","_law_place","_law_rest"] ["_law_rules_here"] (defScope s_l_clashes):=⟨rfl,rfl,rfl,by decide +kernel,rfl,by decide +kernel,by decide +kernel⟩
theorem ok_l_clashes (m:Mg mg) {f:Addr} {fd:FuncData} (F:Fun K "_law_clashes" "_law_clashes" s_l_clashes f fd):FnOk P w K mg base CX0 1 f fd ["_law_rules_here"] (spF K phi_l_clashes):=by
 have nd:=sc_l_clashes.nd
 exact Fun.okQ F sc_l_clashes rfl rfl fun cdv A outer s H E hr=>(qpdss_cons (qpds_dnew (i:=1) nd (by rfl) (by walk_at "l")) (qpdss_cons (qpds_for PassesOwn.never (by rfl) (qpdi_range1 (by rfl) m.m_range (qpd_len (by rfl) m.m_len (qpba_cons (qpb_var (qv 0)) qpba_nil))) (qpdg_var (i:=2) nd (by rfl) (by walk_at "l")) (qpdss_one (qpds_for PassesOwn.never (by rfl) (qpdi_range1 (by rfl) m.m_range (qpd_len (by rfl) m.m_len (qpba_cons (qpb_var (qv 0)) qpba_nil))) (qpdg_var (i:=3) nd (by rfl) (by walk_at "l")) (qpdss_cons (qpds_set (i:=4) nd (by rfl) (by walk_at "l") (qpd_ix (QD.pb (qpd_ix (qpb_var (qv 0)) (qpb_var (qv 2)) (fun _ _=>rfl))) (QD.pb qpd_int) (fun _ _=>rfl))) (qpdss_cons (qpds_set (i:=5) nd (by rfl) (by walk_at "l") (qpd_ix (QD.pb (qpd_ix (qpb_var (qv 0)) (qpb_var (qv 3)) (fun _ _=>rfl))) (QD.pb qpd_int) (fun _ _=>rfl))) (qpdss_one (qpds_for PassesOwn.never (by rfl) (qpdi_range1 (by rfl) m.m_range (qpd_len (by rfl) m.m_len (qpba_cons (qpb_var (qv 4)) qpba_nil))) (qpdg_var (i:=6) nd (by rfl) (by walk_at "l")) (qpdss_cons (qpds_set (i:=7) nd (by rfl) (by walk_at "l") (qpd_slice (qpb_var (qv 4)) (qpdo_some (qpd_var (qv 6))) qpdo_none)) (qpdss_one (qpds_if (QW.pdt (qpdw_and (QW.pdt (qpdw_or (qpdt_ne hr (qpb_var (qv 2)) (qpb_var (qv 3))) (qpdw_or1 (qpdt_gt (qpb_var (qv 6)) (QD.pb qpd_int))))) (qpdw_and1 (QW.pdt (qpdw_or (qpdt_val (qpd_starts (qpb_var (qv 7)) (qpb_var (qv 5)))) (qpdw_or1 (qpdt_val (qpd_starts (qpb_var (qv 5)) (qpb_var (qv 7)))))))))) (qpdss_one (qpds_if (qpdt_gt (QD.pb (qpd_len (by rfl) m.m_len (qpba_cons (qpb_var (qv 5)) qpba_nil))) (QD.pb (qpd_len (by rfl) m.m_len (qpba_cons (qpb_var (qv 7)) qpba_nil)))) (qpdss_one (qpds_dput hr (qv 1) (QD.pb (qpd_plus (QD.pb (qpd_slice (qpb_var (qv 4)) qpdo_none (qpdo_some (qpd_var (qv 6))))) (qpb_var (qv 5)))) qpd_bl)) (qpdss_one (qpds_dput hr (qv 1) (qpb_var (qv 4)) qpd_bl)))) qpdss_nil)))))))))) (qpdss_one (qpds_ret (QD.pb (qpd_tuple (by rfl) m.m_tuple (qpba_cons (QD.pb (QF.pd (qpf_sortD (by rfl) (by rfl) m.m_sorted (qv 1)))) qpba_nil)))))))
abbrev s_rank:Stmt:=top 8
theorem sc_rank:FnScope ["word"] ["word"] (defScope s_rank):=⟨rfl,rfl,rfl,by decide +kernel,rfl,by decide +kernel,by decide +kernel⟩
theorem ok_rank (m:Mg mg) {f:Addr} {fd:FuncData} (F:Fun K "rank" "rank" s_rank f fd):FnOk P w K mg base CX0 1 f fd ["word"] (spF K phi_rank):=by
 have nd:=sc_rank.nd
 exact Fun.okQ F sc_rank rfl rfl fun cdv A outer s H E hr=>(qpdss_one (qpds_ret (QD.pb (qpd_tup (qpda_cons (qpd_len (by rfl) m.m_len (qpba_cons (qpb_var (qv 0)) qpba_nil)) (qpda_cons (qpd_var (qv 0)) qpda_nil))))))
abbrev s_put_right:Stmt:=top 3
theorem sc_put_right:FnScope ["rule","word","place"] ["rule","word","place"] (defScope s_put_right):=⟨rfl,rfl,rfl,by decide +kernel,rfl,by decide +kernel,by decide +kernel⟩
theorem ok_put_right (m:Mg mg) {f:Addr} {fd:FuncData} (F:Fun K "put_right" "put_right" s_put_right f fd):FnOk P w K mg base CX0 1 f fd ["rule","word","place"] (spF K phi_put_right):=by
 have nd:=sc_put_right.nd
 exact Fun.okQ F sc_put_right rfl rfl fun cdv A outer s H E hr=>(qpdss_one (qpds_ret (QD.pb (qpd_plus (QD.pb (qpd_plus (QD.pb (qpd_slice (qpb_var (qv 1)) qpdo_none (qpdo_some (qpd_var (qv 2))))) (QD.pb (qpd_ix (qpb_var (qv 0)) (QD.pb qpd_int) (fun _ _=>rfl))))) (QD.pb (qpd_slice (qpb_var (qv 1)) (qpdo_some (qpd_plus (qpb_var (qv 2)) (QD.pb (qpd_len (by rfl) m.m_len (qpba_cons (QD.pb (qpd_ix (qpb_var (qv 0)) (QD.pb qpd_int) (fun _ _=>rfl))) qpba_nil))))) qpdo_none))))))
abbrev s_first_next:Stmt:=top 6
theorem sc_first_next:FnScope ["rules","word","found","first"] ["rules","word"] (defScope s_first_next):=⟨rfl,rfl,rfl,by decide +kernel,rfl,by decide +kernel,by decide +kernel⟩
theorem ok_first_next (m:Mg mg) {f:Addr} {fd:FuncData} (F:Fun K "first_next" "first_next" s_first_next f fd) (c_put_right:Callee P w K mg base 1 "put_right" phi_put_right):FnOk P w K mg base CX0 2 f fd ["rules","word"] (spF K phi_first_next):=by
 have nd:=sc_first_next.nd
 exact Fun.okQ F sc_first_next rfl rfl fun cdv A outer s H E hr=>(qpdss_cons (qpds_comp2T (i:=2) nd (by rfl) (by walk_at "l") (by rfl) (compS (N:=["rules","word","found","first"]) (sc:=defScope s_first_next) (by rfl) (by rfl) (by decide +kernel)) (show (["k","rule","rules","word","found","first"]:List Str).Nodup by decide +kernel) (by rfl) (by rfl) (qpdi_enum (by rfl) m.m_enumerate (qpd_var (qv 0))) (fun _ _ _ _ _=>qpdif_nil) (fun _ _ _ _ _=>(qpd_tup (qpda_cons (qpd_find (qpb_var (qv 3)) (QD.pb (qpd_ix (qpb_var (qv 1)) (QD.pb qpd_int) (fun _ _=>rfl)))) (qpda_cons (qpd_var (qv 0)) qpda_nil))))) (qpdss_cons (qpds_set (i:=3) nd (by rfl) (by walk_at "l") (qpd_minD hr (by rfl) (by rfl) m.m_min (qpba_cons (QD.pb (QF.pd (qpf_comp1 (by rfl) (compS (N:=["rules","word","found","first"]) (sc:=defScope s_first_next) (by rfl) (by rfl) (by decide +kernel)) (show (["pair","rules","word","found","first"]:List Str).Nodup by decide +kernel) (by rfl) (qpdi_any (qpd_var (qv 2))) (fun _ _ _ _ _=>qpdif_one (qpdt_ge (QD.pb (qpd_ix (qpb_var (qv 0)) (QD.pb qpd_int) (fun _ _=>rfl))) (QD.pb qpd_int))) (fun _ _ _ _ _=>(qpd_var (qv 0)))))) qpba_nil) qpd_non)) (qpdss_one (qpds_ret (QD.pb (qpd_if (qpdt_isN (qpb_var (qv 3)) (QD.pb qpd_non)) qpd_non (qpd_call c_put_right (hr.mono (by decide)) (by rfl) (qpda_cons (qpd_ix (qpb_var (qv 0)) (QD.pb (qpd_ix (qpb_var (qv 3)) (QD.pb qpd_int) (fun _ _=>rfl))) (fun _ _=>rfl)) (qpda_cons (qpd_var (qv 1)) (qpda_cons (qpd_ix (qpb_var (qv 3)) (QD.pb qpd_int) (fun _ _=>rfl)) qpda_nil))))))))))
abbrev s_end:Stmt:=top 5
theorem sc_end:FnScope ["rules","word","behind"] ["rules","word"] (defScope s_end):=⟨rfl,rfl,rfl,by decide +kernel,rfl,by decide +kernel,by decide +kernel⟩
theorem ok_end (m:Mg mg) {f:Addr} {fd:FuncData} (F:Fun K "end" "end" s_end f fd) (c_first_next:Callee P w K mg base 2 "first_next" phi_first_next):FnOk P w K mg base CX0 3 f fd ["rules","word"] (spF K phi_end):=by
 have nd:=sc_end.nd
 exact Fun.okQ F sc_end rfl rfl fun cdv A outer s H E hr=>(qpdss_cons (qpds_set (i:=2) nd (by rfl) (by walk_at "l") (qpd_call c_first_next (hr.mono (by decide)) (by rfl) (qpda_cons (qpd_var (qv 0)) (qpda_cons (qpd_var (qv 1)) qpda_nil)))) (qpdss_cons (qpds_while PassesOwn.never (qpdt_notN (qpb_var (qv 2)) (QD.pb qpd_non)) (qpdss_cons (qpds_set (i:=1) nd (by rfl) (by walk_at "l") (qpd_var (qv 2))) (qpdss_one (qpds_set (i:=2) nd (by rfl) (by walk_at "l") (qpd_call c_first_next (hr.mono (by decide)) (by rfl) (qpda_cons (qpd_var (qv 0)) (qpda_cons (qpd_var (qv 1)) qpda_nil))))))) (qpdss_one (qpds_ret (qpb_var (qv 1))))))
abbrev s_places_of:Stmt:=top 2
theorem sc_places_of:FnScope ["left","word","found","place"] ["left","word"] (defScope s_places_of):=⟨rfl,rfl,rfl,by decide +kernel,rfl,by decide +kernel,by decide +kernel⟩
theorem ok_places_of (m:Mg mg) {f:Addr} {fd:FuncData} (F:Fun K "places_of" "places_of" s_places_of f fd):FnOk P w K mg base CX0 1 f fd ["left","word"] (spF K phi_places_of):=by
 have nd:=sc_places_of.nd
 exact Fun.okQ F sc_places_of rfl rfl fun cdv A outer s H E hr=>(qpdss_cons (qpds_own (i:=2) nd (by rfl) (by walk_at "l") (qpf_lit .nil (by decide))) (qpdss_cons (qpds_set (i:=3) nd (by rfl) (by walk_at "l") (qpd_find (qpb_var (qv 1)) (qpb_var (qv 0)))) (qpdss_cons (qpds_while PassesOwn.never (qpdt_ge (qpb_var (qv 3)) (QD.pb qpd_int)) (qpdss_cons (qpds_append (i:=2) (qv 2) (qpd_var (qv 3))) (qpdss_one (qpds_set (i:=3) nd (by rfl) (by walk_at "l") (qpd_find3 (qpb_var (qv 1)) (qpb_var (qv 0)) (QD.pb (qpd_plus (qpb_var (qv 3)) (QD.pb qpd_int)))))))) (qpdss_one (qpds_ret (qpb_var (qv 2)))))))
abbrev s_places:Stmt:=top 1
theorem sc_places:FnScope ["rules","word","found","k","rule"] ["rules","word"] (defScope s_places):=⟨rfl,rfl,rfl,by decide +kernel,rfl,by decide +kernel,by decide +kernel⟩
theorem ok_places (m:Mg mg) {f:Addr} {fd:FuncData} (F:Fun K "places" "places" s_places f fd) (c_places_of:Callee P w K mg base 1 "places_of" phi_places_of):FnOk P w K mg base CX0 2 f fd ["rules","word"] (spF K phi_places):=by
 have nd:=sc_places.nd
 exact Fun.okQ F sc_places rfl rfl fun cdv A outer s H E hr=>(qpdss_cons (qpds_own (i:=2) nd (by rfl) (by walk_at "l") (qpf_lit .nil (by decide))) (qpdss_cons (qpds_for PassesOwn.never (by rfl) (qpdi_enum (by rfl) m.m_enumerate (qpd_var (qv 0))) (qpdg_two (i:=3) (j:=4) (by rfl) nd (by rfl) (by rfl) (by walk_at "l") (by walk_at "l")) (qpdss_one (qpds_extend (i:=2) (qv 2) (QD.pb (QF.pd (qpf_comp1 (by rfl) (compS (N:=["rules","word","found","k","rule"]) (sc:=defScope s_places) (by rfl) (by rfl) (by decide +kernel)) (show (["place","rules","word","found","k","rule"]:List Str).Nodup by decide +kernel) (by rfl) (qpdi_any (qpd_call c_places_of (hr.mono (by decide)) (by rfl) (qpda_cons (qpd_ix (qpb_var (qv 4)) (QD.pb qpd_int) (fun _ _=>rfl)) (qpda_cons (qpd_var (qv 1)) qpda_nil)))) (fun _ _ _ _ _=>qpdif_nil) (fun _ _ _ _ _=>(qpd_tup (qpda_cons (qpd_var (qv 0)) (qpda_cons (qpd_var (qv 4)) qpda_nil)))))))))) (qpdss_one (qpds_ret (QD.pb (qpd_tuple (by rfl) m.m_tuple (qpba_cons (QD.pb (QF.pd (qpf_sort2 (by rfl) m.m_sorted (qpba_cons (qpb_var (qv 2)) qpba_nil)))) qpba_nil)))))))
abbrev s_nexts:Stmt:=top 4
theorem sc_nexts:FnScope ["rules","word"] ["rules","word"] (defScope s_nexts):=⟨rfl,rfl,rfl,by decide +kernel,rfl,by decide +kernel,by decide +kernel⟩
theorem ok_nexts (m:Mg mg) {f:Addr} {fd:FuncData} (F:Fun K "nexts" "nexts" s_nexts f fd) (c_put_right:Callee P w K mg base 1 "put_right" phi_put_right) (c_places:Callee P w K mg base 2 "places" phi_places):FnOk P w K mg base CX0 3 f fd ["rules","word"] (spF K phi_nexts):=by
 have nd:=sc_nexts.nd
 exact Fun.okQ F sc_nexts rfl rfl fun cdv A outer s H E hr=>(qpdss_one (qpds_ret (QD.pb (qpd_tuple (by rfl) m.m_tuple (qpba_cons (QD.pb (QF.pd (qpf_sortSet (by rfl) (by rfl) m.m_sorted (by rfl) m.m_set (qpba_cons (QD.pb (QF.pd (qpf_comp2 (by rfl) (compS (N:=["rules","word"]) (sc:=defScope s_nexts) (by rfl) (by rfl) (by decide +kernel)) (show (["place","k","rules","word"]:List Str).Nodup by decide +kernel) (by rfl) (by rfl) (qpdi_seq (qpd_call c_places (hr.mono (by decide)) (by rfl) (qpda_cons (qpd_var (qv 0)) (qpda_cons (qpd_var (qv 1)) qpda_nil)))) (fun _ _ _ _ _=>qpdif_nil) (fun _ _ _ _ _=>(qpd_call c_put_right (hr.mono (by decide)) (by rfl) (qpda_cons (qpd_ix (qpb_var (qv 2)) (qpb_var (qv 1)) (fun _ _=>rfl)) (qpda_cons (qpd_var (qv 3)) (qpda_cons (qpd_var (qv 0)) qpda_nil)))))))) qpba_nil)))) qpba_nil)))))
abbrev s_ends_of_nexts:Stmt:=top 15
theorem sc_ends_of_nexts:FnScope ["rules","word"] ["rules","word"] (defScope s_ends_of_nexts):=⟨rfl,rfl,rfl,by decide +kernel,rfl,by decide +kernel,by decide +kernel⟩
theorem ok_ends_of_nexts (m:Mg mg) {f:Addr} {fd:FuncData} (F:Fun K "ends_of_nexts" "ends_of_nexts" s_ends_of_nexts f fd) (c_end:Callee P w K mg base 3 "end" phi_end) (c_nexts:Callee P w K mg base 3 "nexts" phi_nexts):FnOk P w K mg base CX0 4 f fd ["rules","word"] (spF K phi_ends_of_nexts):=by
 have nd:=sc_ends_of_nexts.nd
 exact Fun.okQ F sc_ends_of_nexts rfl rfl fun cdv A outer s H E hr=>(qpdss_one (qpds_ret (QD.pb (qpd_tuple (by rfl) m.m_tuple (qpba_cons (QD.pb (QF.pd (qpf_sortSet (by rfl) (by rfl) m.m_sorted (by rfl) m.m_set (qpba_cons (QD.pb (QF.pd (qpf_comp1 (by rfl) (compS (N:=["rules","word"]) (sc:=defScope s_ends_of_nexts) (by rfl) (by rfl) (by decide +kernel)) (show (["behind","rules","word"]:List Str).Nodup by decide +kernel) (by rfl) (qpdi_any (qpd_call c_nexts (hr.mono (by decide)) (by rfl) (qpda_cons (qpd_var (qv 0)) (qpda_cons (qpd_var (qv 1)) qpda_nil)))) (fun _ _ _ _ _=>qpdif_nil) (fun _ _ _ _ _=>(qpd_call c_end (hr.mono (by decide)) (by rfl) (qpda_cons (qpd_var (qv 1)) (qpda_cons (qpd_var (qv 0)) qpda_nil))))))) qpba_nil)))) qpba_nil)))))
abbrev s_doubt:Stmt:=top 13
theorem sc_doubt:FnScope ["rules","word"] ["rules"] (defScope s_doubt):=⟨rfl,rfl,rfl,by decide +kernel,rfl,by decide +kernel,by decide +kernel⟩
theorem ok_doubt (m:Mg mg) {f:Addr} {fd:FuncData} (F:Fun K "doubt" "doubt" s_doubt f fd) (c_clashes:Callee P w K mg base 3 "clashes" phi_clashes) (c_rank:Callee P w K mg base 1 "rank" phi_rank) (c_ends_of_nexts:Callee P w K mg base 4 "ends_of_nexts" phi_ends_of_nexts):FnOk P w K mg base CX0 5 f fd ["rules"] (spF K phi_doubt):=by
 have nd:=sc_doubt.nd
 exact Fun.okQ F sc_doubt rfl rfl fun cdv A outer s H E hr=>(qpdss_cons (qpds_for PassesOwn.never (by rfl) (qpdi_any (QF.pd (qpf_sortK c_rank (hr.mono (by decide)) (by rfl) (by rfl) m.m_sorted (qpba_cons (QD.pb (qpd_call c_clashes (hr.mono (by decide)) (by rfl) (qpda_cons (qpd_var (qv 0)) qpda_nil))) qpba_nil)))) (qpdg_var (i:=1) nd (by rfl) (by walk_at "l")) (qpdss_one (qpds_if (qpdt_gt (QD.pb (qpd_len (by rfl) m.m_len (qpba_cons (QD.pb (qpd_call c_ends_of_nexts (hr.mono (by decide)) (by rfl) (qpda_cons (qpd_var (qv 0)) (qpda_cons (qpd_var (qv 1)) qpda_nil)))) qpba_nil))) (QD.pb qpd_int)) (qpdss_one (qpds_ret (qpb_var (qv 1)))) qpdss_nil))) (qpdss_one (qpds_ret (QD.pb qpd_non))))
abbrev s_are_sure:Stmt:=top 14
theorem sc_are_sure:FnScope ["rules"] ["rules"] (defScope s_are_sure):=⟨rfl,rfl,rfl,by decide +kernel,rfl,by decide +kernel,by decide +kernel⟩
theorem ok_are_sure (m:Mg mg) {f:Addr} {fd:FuncData} (F:Fun K "are_sure" "are_sure" s_are_sure f fd) (c_doubt:Callee P w K mg base 5 "doubt" phi_doubt):FnOk P w K mg base CX0 6 f fd ["rules"] (spF K phi_are_sure):=by
 have nd:=sc_are_sure.nd
 exact Fun.okQ F sc_are_sure rfl rfl fun cdv A outer s H E hr=>(qpdss_one (qpds_ret (QD.pb (qpd_isN (QD.pb (qpd_call c_doubt (hr.mono (by decide)) (by rfl) (qpda_cons (qpd_var (qv 0)) qpda_nil))) (QD.pb qpd_non)))))
abbrev s_l_places:Stmt:=top 25
theorem sc_l_places:FnScope ["_law_rules_here","_law_word_here","_law_found","_law_place"] ["_law_rules_here","_law_word_here"] (defScope s_l_places):=⟨rfl,rfl,rfl,by decide +kernel,rfl,by decide +kernel,by decide +kernel⟩
theorem ok_l_places (m:Mg mg) {f:Addr} {fd:FuncData} (F:Fun K "_law_places" "_law_places" s_l_places f fd):FnOk P w K mg base CX0 1 f fd ["_law_rules_here","_law_word_here"] (spF K phi_l_places):=by
 have nd:=sc_l_places.nd
 exact Fun.okQ F sc_l_places rfl rfl fun cdv A outer s H E hr=>(qpdss_cons (qpds_set (i:=2) nd (by rfl) (by walk_at "l") (qpd_lit (.lst .nil (by decide)))) (qpdss_cons (qpds_for PassesOwn.never (by rfl) (qpdi_range1 (by rfl) m.m_range (qpd_len (by rfl) m.m_len (qpba_cons (qpb_var (qv 1)) qpba_nil))) (qpdg_var (i:=3) nd (by rfl) (by walk_at "l")) (qpdss_one (qpds_set (i:=2) nd (by rfl) (by walk_at "l") (qpd_plus (qpb_var (qv 2)) (QD.pb (QF.pd (qpf_comp2 (by rfl) (compS (N:=["_law_rules_here","_law_word_here","_law_found","_law_place"]) (sc:=defScope s_l_places) (by rfl) (by rfl) (by decide +kernel)) (show (["_law_k","_law_rule_here","_law_rules_here","_law_word_here","_law_found","_law_place"]:List Str).Nodup by decide +kernel) (by rfl) (by rfl) (qpdi_enum (by rfl) m.m_enumerate (qpd_var (qv 0))) (fun _ _ _ _ _=>qpdif_one (qpdt_val (qpd_starts (QD.pb (qpd_slice (qpb_var (qv 3)) (qpdo_some (qpd_var (qv 5))) qpdo_none)) (QD.pb (qpd_ix (qpb_var (qv 1)) (QD.pb qpd_int) (fun _ _=>rfl)))))) (fun _ _ _ _ _=>(qpd_tup (qpda_cons (qpd_var (qv 5)) (qpda_cons (qpd_var (qv 0)) qpda_nil))))))))))) (qpdss_one (qpds_ret (qpb_var (qv 2))))))
abbrev s_l_changed:Stmt:=top 26
theorem sc_l_changed:FnScope ["_law_rules_here","_law_word_here","_law_place","_law_k","_law_left","_law_right"] ["_law_rules_here","_law_word_here","_law_place","_law_k"] (defScope s_l_changed):=⟨rfl,rfl,rfl,by decide +kernel,rfl,by decide +kernel,by decide +kernel⟩
theorem ok_l_changed (m:Mg mg) {f:Addr} {fd:FuncData} (F:Fun K "_law_changed" "_law_changed" s_l_changed f fd):FnOk P w K mg base CX0 1 f fd ["_law_rules_here","_law_word_here","_law_place","_law_k"] (spF K phi_l_changed):=by
 have nd:=sc_l_changed.nd
 exact Fun.okQ F sc_l_changed rfl rfl fun cdv A outer s H E hr=>(qpdss_cons (qpds_asg (qpd_ix (qpb_var (qv 0)) (qpb_var (qv 3)) (fun _ _=>rfl)) (qpdg_two (i:=4) (j:=5) (by rfl) nd (by rfl) (by rfl) (by walk_at "l") (by walk_at "l"))) (qpdss_one (qpds_ret (QD.pb (qpd_plus (QD.pb (qpd_plus (QD.pb (qpd_slice (qpb_var (qv 1)) qpdo_none (qpdo_some (qpd_var (qv 2))))) (qpb_var (qv 5)))) (QD.pb (qpd_slice (qpb_var (qv 1)) (qpdo_some (qpd_plus (qpb_var (qv 2)) (QD.pb (qpd_len (by rfl) m.m_len (qpba_cons (qpb_var (qv 4)) qpba_nil))))) qpdo_none)))))))
abbrev s_l_nexts:Stmt:=top 27
theorem sc_l_nexts:FnScope ["_law_rules_here","_law_word_here","_law_found","_law_place","_law_k"] ["_law_rules_here","_law_word_here"] (defScope s_l_nexts):=⟨rfl,rfl,rfl,by decide +kernel,rfl,by decide +kernel,by decide +kernel⟩
theorem ok_l_nexts (m:Mg mg) {f:Addr} {fd:FuncData} (F:Fun K "_law_nexts" "_law_nexts" s_l_nexts f fd) (c_l_places:Callee P w K mg base 1 "_law_places" phi_l_places) (c_l_changed:Callee P w K mg base 1 "_law_changed" phi_l_changed):FnOk P w K mg base CX0 2 f fd ["_law_rules_here","_law_word_here"] (spF K phi_l_nexts):=by
 have nd:=sc_l_nexts.nd
 exact Fun.okQ F sc_l_nexts rfl rfl fun cdv A outer s H E hr=>(qpdss_cons (qpds_own (i:=2) nd (by rfl) (by walk_at "l") (qpf_lit .nil (by decide))) (qpdss_cons (qpds_for PassesOwn.never (by rfl) (qpdi_seq (qpd_call c_l_places (hr.mono (by decide)) (by rfl) (qpda_cons (qpd_var (qv 0)) (qpda_cons (qpd_var (qv 1)) qpda_nil)))) (qpdg_two (i:=3) (j:=4) (by rfl) nd (by rfl) (by rfl) (by walk_at "l") (by walk_at "l")) (qpdss_one (qpds_append (i:=2) (qv 2) (qpd_call c_l_changed (hr.mono (by decide)) (by rfl) (qpda_cons (qpd_var (qv 0)) (qpda_cons (qpd_var (qv 1)) (qpda_cons (qpd_var (qv 3)) (qpda_cons (qpd_var (qv 4)) qpda_nil)))))))) (qpdss_one (qpds_ret (QD.pb (QF.pd (qpf_sortSet (by rfl) (by rfl) m.m_sorted (by rfl) m.m_set (qpba_cons (qpb_var (qv 2)) qpba_nil))))))))
abbrev s_l_ends:Stmt:=top 28
theorem sc_l_ends:FnScope ["_law_rules_here","_law_word_here","_law_met","_law_found","_law_at","_law_some"] ["_law_rules_here","_law_word_here"] (defScope s_l_ends):=⟨rfl,rfl,rfl,by decide +kernel,rfl,by decide +kernel,by decide +kernel⟩
theorem ok_l_ends (m:Mg mg) {f:Addr} {fd:FuncData} (F:Fun K "_law_ends" "_law_ends" s_l_ends f fd) (c_l_nexts:Callee P w K mg base 2 "_law_nexts" phi_l_nexts):FnOk P w K mg base CX0 3 f fd ["_law_rules_here","_law_word_here"] (spF K phi_l_ends):=by
 have nd:=sc_l_ends.nd
 exact Fun.okQ F sc_l_ends rfl rfl fun cdv A outer s H E hr=>(qpdss_cons (qpds_set (i:=2) nd (by rfl) (by walk_at "l") (QF.pd (qpf_list (qpda_cons (qpd_var (qv 1)) qpda_nil)))) (qpdss_cons (qpds_own (i:=3) nd (by rfl) (by walk_at "l") (qpf_lit .nil (by decide))) (qpdss_cons (qpds_set (i:=4) nd (by rfl) (by walk_at "l") qpd_int) (qpdss_cons (qpds_while PassesOwn.never (qpdt_lt hr (qpb_var (qv 4)) (QD.pb (qpd_len (by rfl) m.m_len (qpba_cons (qpb_var (qv 2)) qpba_nil)))) (qpdss_cons (qpds_set (i:=5) nd (by rfl) (by walk_at "l") (qpd_call c_l_nexts (hr.mono (by decide)) (by rfl) (qpda_cons (qpd_var (qv 0)) (qpda_cons (qpd_ix (qpb_var (qv 2)) (qpb_var (qv 4)) (fun _ _=>rfl)) qpda_nil)))) (qpdss_cons (qpds_if (qpdt_eq hr (qpb_var (qv 5)) (QD.pb (qpd_lit (.lst .nil (by decide))))) (qpdss_one (qpds_append (i:=3) (qv 3) (qpd_ix (qpb_var (qv 2)) (qpb_var (qv 4)) (fun _ _=>rfl)))) qpdss_nil) (qpdss_cons (qpds_set (i:=2) nd (by rfl) (by walk_at "l") (qpd_plus (qpb_var (qv 2)) (QD.pb (QF.pd (qpf_comp1 (by rfl) (compS (N:=["_law_rules_here","_law_word_here","_law_met","_law_found","_law_at","_law_some"]) (sc:=defScope s_l_ends) (by rfl) (by rfl) (by decide +kernel)) (show (["_law_other","_law_rules_here","_law_word_here","_law_met","_law_found","_law_at","_law_some"]:List Str).Nodup by decide +kernel) (by rfl) (qpdi_any (qpd_var (qv 5))) (fun _ _ _ _ _=>qpdif_one (qpdt_notIn hr (qpb_var (qv 0)) (qpb_var (qv 3)))) (fun _ _ _ _ _=>(qpd_var (qv 0)))))))) (qpdss_one (qpds_set (i:=4) nd (by rfl) (by walk_at "l") (qpd_plus (qpb_var (qv 4)) (QD.pb qpd_int)))))))) (qpdss_one (qpds_ret (QD.pb (qpd_tuple (by rfl) m.m_tuple (qpba_cons (QD.pb (QF.pd (qpf_sort2 (by rfl) m.m_sorted (qpba_cons (qpb_var (qv 3)) qpba_nil)))) qpba_nil)))))))))
abbrev s_law:Stmt:=top 30
theorem sc_law:FnScope ["_law_script","_law_rules_here","_law_found"] ["_law_script"] (defScope s_law):=⟨rfl,rfl,rfl,by decide +kernel,rfl,by decide +kernel,by decide +kernel⟩
theorem ok_law (m:Mg mg) {f:Addr} {fd:FuncData} (F:Fun K "law" "law" s_law f fd) (c_l_rules:Callee P w K mg base 4 "_law_rules" phi_l_rules) (c_clashes:Callee P w K mg base 3 "clashes" phi_clashes) (c_l_mixed:Callee P w K mg base 2 "_law_mixed" phi_l_mixed) (c_l_clashes:Callee P w K mg base 1 "_law_clashes" phi_l_clashes) (c_are_sure:Callee P w K mg base 6 "are_sure" phi_are_sure) (c_l_ends:Callee P w K mg base 3 "_law_ends" phi_l_ends):FnOk P w K mg base CX0 7 f fd ["_law_script"] (spF K phi_law):=by
 have nd:=sc_law.nd
 exact Fun.okQ F sc_law rfl rfl fun cdv A outer s H E hr=>(qpdss_cons (qpds_set (i:=1) nd (by rfl) (by walk_at "l") (qpd_call c_l_rules (hr.mono (by decide)) (by rfl) (qpda_cons (qpd_call c_l_mixed (hr.mono (by decide)) (by rfl) (qpda_cons (qpd_var (qv 0)) (qpda_cons qpd_int qpda_nil))) qpda_nil))) (qpdss_cons (qpds_set (i:=2) nd (by rfl) (by walk_at "l") (qpd_call c_clashes (hr.mono (by decide)) (by rfl) (qpda_cons (qpd_var (qv 1)) qpda_nil))) (qpdss_cons (qpds_if (qpdt_ne hr (qpb_var (qv 2)) (QD.pb (qpd_call c_l_clashes (hr.mono (by decide)) (by rfl) (qpda_cons (qpd_var (qv 1)) qpda_nil)))) (qpdss_one (qpds_ret (QD.pb qpd_bl))) qpdss_nil) (qpdss_one (qpds_ret (QD.pb (qpd_eq hr (QD.pb (qpd_call c_are_sure (hr.mono (by decide)) (by rfl) (qpda_cons (qpd_var (qv 1)) qpda_nil))) (QD.pb (qpd_eq hr (QD.pb (QF.pd (qpf_comp1 (by rfl) (compS (N:=["_law_script","_law_rules_here","_law_found"]) (sc:=defScope s_law) (by rfl) (by rfl) (by decide +kernel)) (show (["_law_word_here","_law_script","_law_rules_here","_law_found"]:List Str).Nodup by decide +kernel) (by rfl) (qpdi_any (qpd_var (qv 2))) (fun _ _ _ _ _=>qpdif_one (qpdt_gt (QD.pb (qpd_len (by rfl) m.m_len (qpba_cons (QD.pb (qpd_call c_l_ends (hr.mono (by decide)) (by rfl) (qpda_cons (qpd_var (qv 2)) (qpda_cons (qpd_var (qv 0)) qpda_nil)))) qpba_nil))) (QD.pb qpd_int))) (fun _ _ _ _ _=>(qpd_var (qv 0)))))) (QD.pb (qpd_lit (.lst .nil (by decide)))))))))))))
end
theorem us1 {P:List Value→Prop}(h:∀ x0,P [x0]):∀ us:List Value,us.length=1→P us
 |[x0],_=>h x0
theorem us2 {P:List Value→Prop}(h:∀ x0 x1,P [x0,x1]):∀ us:List Value,us.length=2→P us
 |[x0,x1],_=>h x0 x1
theorem us3 {P:List Value→Prop}(h:∀ x0 x1 x2,P [x0,x1,x2]):∀ us:List Value,us.length=3→P us
 |[x0,x1,x2],_=>h x0 x1 x2
theorem us4 {P:List Value→Prop}(h:∀ x0 x1 x2 x3,P [x0,x1,x2,x3]):∀ us:List Value,us.length=4→P us
 |[x0,x1,x2,x3],_=>h x0 x1 x2 x3
theorem all_mk {l:PySem.W.OpenLaw} {w:World} {K:PySem.W.Frag} {h:Heap} {mg:Str→Option Value} {fa f0 f1 f2 f3 f4 f5 f6 f7 f8 f9 f10 f11 f12 f13 f14 f15 f16 f17 f18 f19 f20 f21 f22 f23 f24 f25 f26:Addr} (X:K.In h) (G:h.Ns mainGlobals mg) (hfa:mg "law"=some (.ref fa))
  {od0 an0 od1 an1 od2 an2 od3 an3 od4 an4 od5 an5 od6 an6 od7 an7 od8 an8 od9 an9 od10 an10 od11 an11 od12 an12 od13 an13 od14 an14 od15 an15 od16 an16 od17 an17 od18 an18 od19 an19 od20 an20 od21 an21 od22 an22 od23 an23 od24 an24 od25 an25 od26 an26:Option Addr} {sl0 sl1 sl2 sl3 sl4 sl5 sl6 sl7 sl8 sl9 sl10 sl11 sl12 sl13 sl14 sl15 sl16 sl17 sl18 sl19 sl20 sl21 sl22 sl23 sl24 sl25 sl26:Array (Option Value)} {oc0 kV0 dc0 pm0 cd0 ct0 oc1 kV1 dc1 pm1 cd1 ct1 oc2 kV2 dc2 pm2 cd2 ct2 oc3 kV3 dc3 pm3 cd3 ct3 oc4 kV4 dc4 pm4 cd4 ct4 oc5 kV5 dc5 pm5 cd5 ct5 oc6 kV6 dc6 pm6 cd6 ct6 oc7 kV7 dc7 pm7 cd7 ct7 oc8 kV8 dc8 pm8 cd8 ct8 oc9 kV9 dc9 pm9 cd9 ct9 oc10 kV10 dc10 pm10 cd10 ct10 oc11 kV11 dc11 pm11 cd11 ct11 oc12 kV12 dc12 pm12 cd12 ct12 oc13 kV13 dc13 pm13 cd13 ct13 oc14 kV14 dc14 pm14 cd14 ct14 oc15 kV15 dc15 pm15 cd15 ct15 oc16 kV16 dc16 pm16 cd16 ct16 oc17 kV17 dc17 pm17 cd17 ct17 oc18 kV18 dc18 pm18 cd18 ct18 oc19 kV19 dc19 pm19 cd19 ct19 oc20 kV20 dc20 pm20 cd20 ct20 oc21 kV21 dc21 pm21 cd21 ct21 oc22 kV22 dc22 pm22 cd22 ct22 oc23 kV23 dc23 pm23 cd23 ct23 oc24 kV24 dc24 pm24 cd24 ct24 oc25 kV25 dc25 pm25 cd25 ct25 oc26 kV26 dc26 pm26 cd26 ct26:Value}
  (a0:PySem.W.nsIn K mainGlobals "_law_drawn"=some (some (.ref f0))) (l0:K.lookup f0=some ⟨oc0,od0,.func (PySem.W.fnOf "_law_drawn" "_law_drawn" (defArgs s_l_drawn) (defBody s_l_drawn) (defScope s_l_drawn) .none kV0 dc0 pm0 an0 cd0 ct0),sl0⟩) (q0:PySem.W.codeIn K cd0 "_law_drawn"=true) (k0:PySem.W.keepIn K (.ref f0)=true)
  (a1:PySem.W.nsIn K mainGlobals "_law_tame"=some (some (.ref f1))) (l1:K.lookup f1=some ⟨oc1,od1,.func (PySem.W.fnOf "_law_tame" "_law_tame" (defArgs s_l_tame) (defBody s_l_tame) (defScope s_l_tame) .none kV1 dc1 pm1 an1 cd1 ct1),sl1⟩) (q1:PySem.W.codeIn K cd1 "_law_tame"=true) (k1:PySem.W.keepIn K (.ref f1)=true)
  (a2:PySem.W.nsIn K mainGlobals "_law_word"=some (some (.ref f2))) (l2:K.lookup f2=some ⟨oc2,od2,.func (PySem.W.fnOf "_law_word" "_law_word" (defArgs s_l_word) (defBody s_l_word) (defScope s_l_word) .none kV2 dc2 pm2 an2 cd2 ct2),sl2⟩) (q2:PySem.W.codeIn K cd2 "_law_word"=true) (k2:PySem.W.keepIn K (.ref f2)=true)
  (a3:PySem.W.nsIn K mainGlobals "_law_less"=some (some (.ref f3))) (l3:K.lookup f3=some ⟨oc3,od3,.func (PySem.W.fnOf "_law_less" "_law_less" (defArgs s_l_less) (defBody s_l_less) (defScope s_l_less) .none kV3 dc3 pm3 an3 cd3 ct3),sl3⟩) (q3:PySem.W.codeIn K cd3 "_law_less"=true) (k3:PySem.W.keepIn K (.ref f3)=true)
  (a4:PySem.W.nsIn K mainGlobals "_law_rule"=some (some (.ref f4))) (l4:K.lookup f4=some ⟨oc4,od4,.func (PySem.W.fnOf "_law_rule" "_law_rule" (defArgs s_l_rule) (defBody s_l_rule) (defScope s_l_rule) .none kV4 dc4 pm4 an4 cd4 ct4),sl4⟩) (q4:PySem.W.codeIn K cd4 "_law_rule"=true) (k4:PySem.W.keepIn K (.ref f4)=true)
  (a5:PySem.W.nsIn K mainGlobals "_law_rules"=some (some (.ref f5))) (l5:K.lookup f5=some ⟨oc5,od5,.func (PySem.W.fnOf "_law_rules" "_law_rules" (defArgs s_l_rules) (defBody s_l_rules) (defScope s_l_rules) .none kV5 dc5 pm5 an5 cd5 ct5),sl5⟩) (q5:PySem.W.codeIn K cd5 "_law_rules"=true) (k5:PySem.W.keepIn K (.ref f5)=true)
  (a6:PySem.W.nsIn K mainGlobals "overlay"=some (some (.ref f6))) (l6:K.lookup f6=some ⟨oc6,od6,.func (PySem.W.fnOf "overlay" "overlay" (defArgs s_overlay) (defBody s_overlay) (defScope s_overlay) .none kV6 dc6 pm6 an6 cd6 ct6),sl6⟩) (q6:PySem.W.codeIn K cd6 "overlay"=true) (k6:PySem.W.keepIn K (.ref f6)=true)
  (a7:PySem.W.nsIn K mainGlobals "overlays"=some (some (.ref f7))) (l7:K.lookup f7=some ⟨oc7,od7,.func (PySem.W.fnOf "overlays" "overlays" (defArgs s_overlays) (defBody s_overlays) (defScope s_overlays) .none kV7 dc7 pm7 an7 cd7 ct7),sl7⟩) (q7:PySem.W.codeIn K cd7 "overlays"=true) (k7:PySem.W.keepIn K (.ref f7)=true)
  (a8:PySem.W.nsIn K mainGlobals "clashes"=some (some (.ref f8))) (l8:K.lookup f8=some ⟨oc8,od8,.func (PySem.W.fnOf "clashes" "clashes" (defArgs s_clashes) (defBody s_clashes) (defScope s_clashes) .none kV8 dc8 pm8 an8 cd8 ct8),sl8⟩) (q8:PySem.W.codeIn K cd8 "clashes"=true) (k8:PySem.W.keepIn K (.ref f8)=true)
  (a9:PySem.W.nsIn K mainGlobals "_law_cell_at"=some (some (.ref f9))) (l9:K.lookup f9=some ⟨oc9,od9,.func (PySem.W.fnOf "_law_cell_at" "_law_cell_at" (defArgs s_l_cell_at) (defBody s_l_cell_at) (defScope s_l_cell_at) .none kV9 dc9 pm9 an9 cd9 ct9),sl9⟩) (q9:PySem.W.codeIn K cd9 "_law_cell_at"=true) (k9:PySem.W.keepIn K (.ref f9)=true)
  (a10:PySem.W.nsIn K mainGlobals "_law_mixed"=some (some (.ref f10))) (l10:K.lookup f10=some ⟨oc10,od10,.func (PySem.W.fnOf "_law_mixed" "_law_mixed" (defArgs s_l_mixed) (defBody s_l_mixed) (defScope s_l_mixed) .none kV10 dc10 pm10 an10 cd10 ct10),sl10⟩) (q10:PySem.W.codeIn K cd10 "_law_mixed"=true) (k10:PySem.W.keepIn K (.ref f10)=true)
  (a11:PySem.W.nsIn K mainGlobals "_law_clashes"=some (some (.ref f11))) (l11:K.lookup f11=some ⟨oc11,od11,.func (PySem.W.fnOf "_law_clashes" "_law_clashes" (defArgs s_l_clashes) (defBody s_l_clashes) (defScope s_l_clashes) .none kV11 dc11 pm11 an11 cd11 ct11),sl11⟩) (q11:PySem.W.codeIn K cd11 "_law_clashes"=true) (k11:PySem.W.keepIn K (.ref f11)=true)
  (a12:PySem.W.nsIn K mainGlobals "rank"=some (some (.ref f12))) (l12:K.lookup f12=some ⟨oc12,od12,.func (PySem.W.fnOf "rank" "rank" (defArgs s_rank) (defBody s_rank) (defScope s_rank) .none kV12 dc12 pm12 an12 cd12 ct12),sl12⟩) (q12:PySem.W.codeIn K cd12 "rank"=true) (k12:PySem.W.keepIn K (.ref f12)=true)
  (a13:PySem.W.nsIn K mainGlobals "put_right"=some (some (.ref f13))) (l13:K.lookup f13=some ⟨oc13,od13,.func (PySem.W.fnOf "put_right" "put_right" (defArgs s_put_right) (defBody s_put_right) (defScope s_put_right) .none kV13 dc13 pm13 an13 cd13 ct13),sl13⟩) (q13:PySem.W.codeIn K cd13 "put_right"=true) (k13:PySem.W.keepIn K (.ref f13)=true)
  (a14:PySem.W.nsIn K mainGlobals "first_next"=some (some (.ref f14))) (l14:K.lookup f14=some ⟨oc14,od14,.func (PySem.W.fnOf "first_next" "first_next" (defArgs s_first_next) (defBody s_first_next) (defScope s_first_next) .none kV14 dc14 pm14 an14 cd14 ct14),sl14⟩) (q14:PySem.W.codeIn K cd14 "first_next"=true) (k14:PySem.W.keepIn K (.ref f14)=true)
  (a15:PySem.W.nsIn K mainGlobals "end"=some (some (.ref f15))) (l15:K.lookup f15=some ⟨oc15,od15,.func (PySem.W.fnOf "end" "end" (defArgs s_end) (defBody s_end) (defScope s_end) .none kV15 dc15 pm15 an15 cd15 ct15),sl15⟩) (q15:PySem.W.codeIn K cd15 "end"=true) (k15:PySem.W.keepIn K (.ref f15)=true)
  (a16:PySem.W.nsIn K mainGlobals "places_of"=some (some (.ref f16))) (l16:K.lookup f16=some ⟨oc16,od16,.func (PySem.W.fnOf "places_of" "places_of" (defArgs s_places_of) (defBody s_places_of) (defScope s_places_of) .none kV16 dc16 pm16 an16 cd16 ct16),sl16⟩) (q16:PySem.W.codeIn K cd16 "places_of"=true) (k16:PySem.W.keepIn K (.ref f16)=true)
  (a17:PySem.W.nsIn K mainGlobals "places"=some (some (.ref f17))) (l17:K.lookup f17=some ⟨oc17,od17,.func (PySem.W.fnOf "places" "places" (defArgs s_places) (defBody s_places) (defScope s_places) .none kV17 dc17 pm17 an17 cd17 ct17),sl17⟩) (q17:PySem.W.codeIn K cd17 "places"=true) (k17:PySem.W.keepIn K (.ref f17)=true)
  (a18:PySem.W.nsIn K mainGlobals "nexts"=some (some (.ref f18))) (l18:K.lookup f18=some ⟨oc18,od18,.func (PySem.W.fnOf "nexts" "nexts" (defArgs s_nexts) (defBody s_nexts) (defScope s_nexts) .none kV18 dc18 pm18 an18 cd18 ct18),sl18⟩) (q18:PySem.W.codeIn K cd18 "nexts"=true) (k18:PySem.W.keepIn K (.ref f18)=true)
  (a19:PySem.W.nsIn K mainGlobals "ends_of_nexts"=some (some (.ref f19))) (l19:K.lookup f19=some ⟨oc19,od19,.func (PySem.W.fnOf "ends_of_nexts" "ends_of_nexts" (defArgs s_ends_of_nexts) (defBody s_ends_of_nexts) (defScope s_ends_of_nexts) .none kV19 dc19 pm19 an19 cd19 ct19),sl19⟩) (q19:PySem.W.codeIn K cd19 "ends_of_nexts"=true) (k19:PySem.W.keepIn K (.ref f19)=true)
  (a20:PySem.W.nsIn K mainGlobals "doubt"=some (some (.ref f20))) (l20:K.lookup f20=some ⟨oc20,od20,.func (PySem.W.fnOf "doubt" "doubt" (defArgs s_doubt) (defBody s_doubt) (defScope s_doubt) .none kV20 dc20 pm20 an20 cd20 ct20),sl20⟩) (q20:PySem.W.codeIn K cd20 "doubt"=true) (k20:PySem.W.keepIn K (.ref f20)=true)
  (a21:PySem.W.nsIn K mainGlobals "are_sure"=some (some (.ref f21))) (l21:K.lookup f21=some ⟨oc21,od21,.func (PySem.W.fnOf "are_sure" "are_sure" (defArgs s_are_sure) (defBody s_are_sure) (defScope s_are_sure) .none kV21 dc21 pm21 an21 cd21 ct21),sl21⟩) (q21:PySem.W.codeIn K cd21 "are_sure"=true) (k21:PySem.W.keepIn K (.ref f21)=true)
  (a22:PySem.W.nsIn K mainGlobals "_law_places"=some (some (.ref f22))) (l22:K.lookup f22=some ⟨oc22,od22,.func (PySem.W.fnOf "_law_places" "_law_places" (defArgs s_l_places) (defBody s_l_places) (defScope s_l_places) .none kV22 dc22 pm22 an22 cd22 ct22),sl22⟩) (q22:PySem.W.codeIn K cd22 "_law_places"=true) (k22:PySem.W.keepIn K (.ref f22)=true)
  (a23:PySem.W.nsIn K mainGlobals "_law_changed"=some (some (.ref f23))) (l23:K.lookup f23=some ⟨oc23,od23,.func (PySem.W.fnOf "_law_changed" "_law_changed" (defArgs s_l_changed) (defBody s_l_changed) (defScope s_l_changed) .none kV23 dc23 pm23 an23 cd23 ct23),sl23⟩) (q23:PySem.W.codeIn K cd23 "_law_changed"=true) (k23:PySem.W.keepIn K (.ref f23)=true)
  (a24:PySem.W.nsIn K mainGlobals "_law_nexts"=some (some (.ref f24))) (l24:K.lookup f24=some ⟨oc24,od24,.func (PySem.W.fnOf "_law_nexts" "_law_nexts" (defArgs s_l_nexts) (defBody s_l_nexts) (defScope s_l_nexts) .none kV24 dc24 pm24 an24 cd24 ct24),sl24⟩) (q24:PySem.W.codeIn K cd24 "_law_nexts"=true) (k24:PySem.W.keepIn K (.ref f24)=true)
  (a25:PySem.W.nsIn K mainGlobals "_law_ends"=some (some (.ref f25))) (l25:K.lookup f25=some ⟨oc25,od25,.func (PySem.W.fnOf "_law_ends" "_law_ends" (defArgs s_l_ends) (defBody s_l_ends) (defScope s_l_ends) .none kV25 dc25 pm25 an25 cd25 ct25),sl25⟩) (q25:PySem.W.codeIn K cd25 "_law_ends"=true) (k25:PySem.W.keepIn K (.ref f25)=true)
  (a26:PySem.W.nsIn K mainGlobals "law"=some (some (.ref f26))) (l26:K.lookup f26=some ⟨oc26,od26,.func (PySem.W.fnOf "law" "law" (defArgs s_law) (defBody s_law) (defScope s_law) .none kV26 dc26 pm26 an26 cd26 ct26),sl26⟩) (q26:PySem.W.codeIn K cd26 "law"=true) (k26:PySem.W.keepIn K (.ref f26)=true)
  (z_enumerate:PySem.W.nsIn K mainGlobals "enumerate"=some none)
  (z_len:PySem.W.nsIn K mainGlobals "len"=some none)
  (z_min:PySem.W.nsIn K mainGlobals "min"=some none)
  (z_range:PySem.W.nsIn K mainGlobals "range"=some none)
  (z_set:PySem.W.nsIn K mainGlobals "set"=some none)
  (z_sorted:PySem.W.nsIn K mainGlobals "sorted"=some none)
  (z_tuple:PySem.W.nsIn K mainGlobals "tuple"=some none)
 :∃ fd:FuncData,(∀ (s:Shared) (v:Value),BindsTo s fd ⟨[v],[]⟩ [("_law_script",v)])∧∀ base:Heap,K.In base→base.Ns mainGlobals mg→FnOk l.prog w K mg base CX0 7 fa fd ["_law_script"] (spF K phi_law):=by
 have e:=hfa.symm.trans (PySem.W.mg_of X G a26)
 cases e
 have m:Mg mg:=⟨PySem.W.mg_none_of X G z_enumerate,PySem.W.mg_none_of X G z_len,PySem.W.mg_none_of X G z_min,PySem.W.mg_none_of X G z_range,PySem.W.mg_none_of X G z_set,PySem.W.mg_none_of X G z_sorted,PySem.W.mg_none_of X G z_tuple⟩
 have F0:=fun_mk (st:=s_l_drawn) l0 q0 k0
 have b0:=F0.binds (ps:=["_law_number","_law_k"]) fun _ _ _ _ _ _=>us2 fun _ _=>rfl
 have F1:=fun_mk (st:=s_l_tame) l1 q1 k1
 have b1:=F1.binds (ps:=["_law_number","_law_letters"]) fun _ _ _ _ _ _=>us2 fun _ _=>rfl
 have F2:=fun_mk (st:=s_l_word) l2 q2 k2
 have b2:=F2.binds (ps:=["_law_number","_law_letters","_law_most"]) fun _ _ _ _ _ _=>us3 fun _ _ _=>rfl
 have F3:=fun_mk (st:=s_l_less) l3 q3 k3
 have b3:=F3.binds (ps:=["_law_one","_law_other"]) fun _ _ _ _ _ _=>us2 fun _ _=>rfl
 have F4:=fun_mk (st:=s_l_rule) l4 q4 k4
 have b4:=F4.binds (ps:=["_law_number","_law_letters"]) fun _ _ _ _ _ _=>us2 fun _ _=>rfl
 have F5:=fun_mk (st:=s_l_rules) l5 q5 k5
 have b5:=F5.binds (ps:=["_law_number"]) fun _ _ _ _ _ _=>us1 fun _=>rfl
 have F6:=fun_mk (st:=s_overlay) l6 q6 k6
 have b6:=F6.binds (ps:=["left","other","place"]) fun _ _ _ _ _ _=>us3 fun _ _ _=>rfl
 have F7:=fun_mk (st:=s_overlays) l7 q7 k7
 have b7:=F7.binds (ps:=["left","other","start"]) fun _ _ _ _ _ _=>us3 fun _ _ _=>rfl
 have F8:=fun_mk (st:=s_clashes) l8 q8 k8
 have b8:=F8.binds (ps:=["rules"]) fun _ _ _ _ _ _=>us1 fun _=>rfl
 have F9:=fun_mk (st:=s_l_cell_at) l9 q9 k9
 have b9:=F9.binds (ps:=["_law_script","_law_k"]) fun _ _ _ _ _ _=>us2 fun _ _=>rfl
 have F10:=fun_mk (st:=s_l_mixed) l10 q10 k10
 have b10:=F10.binds (ps:=["_law_script","_law_k"]) fun _ _ _ _ _ _=>us2 fun _ _=>rfl
 have F11:=fun_mk (st:=s_l_clashes) l11 q11 k11
 have b11:=F11.binds (ps:=["_law_rules_here"]) fun _ _ _ _ _ _=>us1 fun _=>rfl
 have F12:=fun_mk (st:=s_rank) l12 q12 k12
 have b12:=F12.binds (ps:=["word"]) fun _ _ _ _ _ _=>us1 fun _=>rfl
 have F13:=fun_mk (st:=s_put_right) l13 q13 k13
 have b13:=F13.binds (ps:=["rule","word","place"]) fun _ _ _ _ _ _=>us3 fun _ _ _=>rfl
 have F14:=fun_mk (st:=s_first_next) l14 q14 k14
 have b14:=F14.binds (ps:=["rules","word"]) fun _ _ _ _ _ _=>us2 fun _ _=>rfl
 have F15:=fun_mk (st:=s_end) l15 q15 k15
 have b15:=F15.binds (ps:=["rules","word"]) fun _ _ _ _ _ _=>us2 fun _ _=>rfl
 have F16:=fun_mk (st:=s_places_of) l16 q16 k16
 have b16:=F16.binds (ps:=["left","word"]) fun _ _ _ _ _ _=>us2 fun _ _=>rfl
 have F17:=fun_mk (st:=s_places) l17 q17 k17
 have b17:=F17.binds (ps:=["rules","word"]) fun _ _ _ _ _ _=>us2 fun _ _=>rfl
 have F18:=fun_mk (st:=s_nexts) l18 q18 k18
 have b18:=F18.binds (ps:=["rules","word"]) fun _ _ _ _ _ _=>us2 fun _ _=>rfl
 have F19:=fun_mk (st:=s_ends_of_nexts) l19 q19 k19
 have b19:=F19.binds (ps:=["rules","word"]) fun _ _ _ _ _ _=>us2 fun _ _=>rfl
 have F20:=fun_mk (st:=s_doubt) l20 q20 k20
 have b20:=F20.binds (ps:=["rules"]) fun _ _ _ _ _ _=>us1 fun _=>rfl
 have F21:=fun_mk (st:=s_are_sure) l21 q21 k21
 have b21:=F21.binds (ps:=["rules"]) fun _ _ _ _ _ _=>us1 fun _=>rfl
 have F22:=fun_mk (st:=s_l_places) l22 q22 k22
 have b22:=F22.binds (ps:=["_law_rules_here","_law_word_here"]) fun _ _ _ _ _ _=>us2 fun _ _=>rfl
 have F23:=fun_mk (st:=s_l_changed) l23 q23 k23
 have b23:=F23.binds (ps:=["_law_rules_here","_law_word_here","_law_place","_law_k"]) fun _ _ _ _ _ _=>us4 fun _ _ _ _=>rfl
 have F24:=fun_mk (st:=s_l_nexts) l24 q24 k24
 have b24:=F24.binds (ps:=["_law_rules_here","_law_word_here"]) fun _ _ _ _ _ _=>us2 fun _ _=>rfl
 have F25:=fun_mk (st:=s_l_ends) l25 q25 k25
 have b25:=F25.binds (ps:=["_law_rules_here","_law_word_here"]) fun _ _ _ _ _ _=>us2 fun _ _=>rfl
 have F26:=fun_mk (st:=s_law) l26 q26 k26
 refine⟨PySem.W.fnOf "law" "law" (defArgs s_law) (defBody s_law) (defScope s_law) .none kV26 dc26 pm26 an26 cd26 ct26,fun s v=>.of_eq rfl,fun base _ _=>?_⟩
 have c0:=F0.callee (ok_l_drawn (P:=l.prog) (w:=w) (base:=base) m F0) (PySem.W.mg_of X G a0) b0
 have c1:=F1.callee (ok_l_tame (P:=l.prog) (w:=w) (base:=base) m F1 c0) (PySem.W.mg_of X G a1) b1
 have c2:=F2.callee (ok_l_word (P:=l.prog) (w:=w) (base:=base) m F2 c0) (PySem.W.mg_of X G a2) b2
 have c3:=F3.callee (ok_l_less (P:=l.prog) (w:=w) (base:=base) m F3) (PySem.W.mg_of X G a3) b3
 have c4:=F4.callee (ok_l_rule (P:=l.prog) (w:=w) (base:=base) m F4 c2 c0 c3) (PySem.W.mg_of X G a4) b4
 have c5:=F5.callee (ok_l_rules (P:=l.prog) (w:=w) (base:=base) m F5 c1 c4 c0) (PySem.W.mg_of X G a5) b5
 have c6:=F6.callee (ok_overlay (P:=l.prog) (w:=w) (base:=base) m F6) (PySem.W.mg_of X G a6) b6
 have c7:=F7.callee (ok_overlays (P:=l.prog) (w:=w) (base:=base) m F7 c6) (PySem.W.mg_of X G a7) b7
 have c8:=F8.callee (ok_clashes (P:=l.prog) (w:=w) (base:=base) m F8 c7) (PySem.W.mg_of X G a8) b8
 have c9:=F9.callee (ok_l_cell_at (P:=l.prog) (w:=w) (base:=base) m F9) (PySem.W.mg_of X G a9) b9
 have c10:=F10.callee (ok_l_mixed (P:=l.prog) (w:=w) (base:=base) m F10 c9) (PySem.W.mg_of X G a10) b10
 have c11:=F11.callee (ok_l_clashes (P:=l.prog) (w:=w) (base:=base) m F11) (PySem.W.mg_of X G a11) b11
 have c12:=F12.callee (ok_rank (P:=l.prog) (w:=w) (base:=base) m F12) (PySem.W.mg_of X G a12) b12
 have c13:=F13.callee (ok_put_right (P:=l.prog) (w:=w) (base:=base) m F13) (PySem.W.mg_of X G a13) b13
 have c14:=F14.callee (ok_first_next (P:=l.prog) (w:=w) (base:=base) m F14 c13) (PySem.W.mg_of X G a14) b14
 have c15:=F15.callee (ok_end (P:=l.prog) (w:=w) (base:=base) m F15 c14) (PySem.W.mg_of X G a15) b15
 have c16:=F16.callee (ok_places_of (P:=l.prog) (w:=w) (base:=base) m F16) (PySem.W.mg_of X G a16) b16
 have c17:=F17.callee (ok_places (P:=l.prog) (w:=w) (base:=base) m F17 c16) (PySem.W.mg_of X G a17) b17
 have c18:=F18.callee (ok_nexts (P:=l.prog) (w:=w) (base:=base) m F18 c13 c17) (PySem.W.mg_of X G a18) b18
 have c19:=F19.callee (ok_ends_of_nexts (P:=l.prog) (w:=w) (base:=base) m F19 c15 c18) (PySem.W.mg_of X G a19) b19
 have c20:=F20.callee (ok_doubt (P:=l.prog) (w:=w) (base:=base) m F20 c8 c12 c19) (PySem.W.mg_of X G a20) b20
 have c21:=F21.callee (ok_are_sure (P:=l.prog) (w:=w) (base:=base) m F21 c20) (PySem.W.mg_of X G a21) b21
 have c22:=F22.callee (ok_l_places (P:=l.prog) (w:=w) (base:=base) m F22) (PySem.W.mg_of X G a22) b22
 have c23:=F23.callee (ok_l_changed (P:=l.prog) (w:=w) (base:=base) m F23) (PySem.W.mg_of X G a23) b23
 have c24:=F24.callee (ok_l_nexts (P:=l.prog) (w:=w) (base:=base) m F24 c22 c23) (PySem.W.mg_of X G a24) b24
 have c25:=F25.callee (ok_l_ends (P:=l.prog) (w:=w) (base:=base) m F25 c24) (PySem.W.mg_of X G a25) b25
 exact ok_law m F26 c5 c8 c10 c11 c21 c25
theorem walk {l:PySem.W.OpenLaw}{q:Program}{loose:List Str}{XP:(Str→Option Value)→Heap→Prop}{YP:World→Heap→Prop}{d:DefRec}{K:Params→PySem.W.Frag}(hn:l.most=some 63)(hdf:d.params.defaults=[])
  (holds:∀ ns:List Int,ns.length≤63→phi_law [.lst (ns.map Th.int)]=some (.bl true))
  (hY:∀ (w:World) (h:Heap),YP w h→(K w.params).In h)
  (F:∀ (w:World) (mg:Str→Option Value) (fa:Addr) (h:Heap),(K w.params).In h→h.Ns mainGlobals mg→mg d.name=some (.ref fa) →
   ∃ fd:FuncData,(∀ (s:Shared) (u:Value),BindsTo s fd ⟨[u],[]⟩ [("_law_script",u)])∧∀ base:Heap,(K w.params).In base→base.Ns mainGlobals mg→FnOk l.prog w (K w.params) mg base CX0 7 fa fd ["_law_script"] (spF (K w.params) phi_law)) :
  PySem.W.WalkO q loose XP YP l.row.toRowW d [] (fun f vs=>PySem.call f vs) :=
 L2.walk_of (n:=63) (k:=7) (x:="_law_script") (CX:=fun _=>CX0) (sp:=fun w=>spF (K w.params) phi_law) hn (by decide) hdf ⟨rfl,by decide,by decide⟩ hY F
  (fun w H a ns hl _ hS=>law_sp hS (holds ns hl)) fun _ _ _ _ _ z=>z
end K22
open PySem PySem.W PyProof.Rows
set_option maxRecDepth 100000 in
set_option maxHeartbeats 0 in
theorem PySem.Challenge.cw_wordmelt_k22_whole_clashes_tell_all_holds : PySem.Challenge.rw_wordmelt_k22_whole_clashes_tell_all.Holds := by
 w_on; o_law; k_head; (case hw=>w_witness2)
 k_fill
 refine K22.walk (l:=PySem.Challenge.rw_wordmelt_k22_whole_clashes_tell_all) rfl rfl K22.holds (fun w h Y=>PySem.W.kIn_of Y) ?F
 case F =>
  intro w mg fa h KX G hmg
  refine' K22.all_mk KX G hmg ?a0 ?l0 ?q0 ?k0 ?a1 ?l1 ?q1 ?k1 ?a2 ?l2 ?q2 ?k2 ?a3 ?l3 ?q3 ?k3 ?a4 ?l4 ?q4 ?k4 ?a5 ?l5 ?q5 ?k5 ?a6 ?l6 ?q6 ?k6 ?a7 ?l7 ?q7 ?k7 ?a8 ?l8 ?q8 ?k8 ?a9 ?l9 ?q9 ?k9 ?a10 ?l10 ?q10 ?k10 ?a11 ?l11 ?q11 ?k11 ?a12 ?l12 ?q12 ?k12 ?a13 ?l13 ?q13 ?k13 ?a14 ?l14 ?q14 ?k14 ?a15 ?l15 ?q15 ?k15 ?a16 ?l16 ?q16 ?k16 ?a17 ?l17 ?q17 ?k17 ?a18 ?l18 ?q18 ?k18 ?a19 ?l19 ?q19 ?k19 ?a20 ?l20 ?q20 ?k20 ?a21 ?l21 ?q21 ?k21 ?a22 ?l22 ?q22 ?k22 ?a23 ?l23 ?q23 ?k23 ?a24 ?l24 ?q24 ?k24 ?a25 ?l25 ?q25 ?k25 ?a26 ?l26 ?q26 ?k26 ?z_enumerate ?z_len ?z_min ?z_range ?z_set ?z_sorted ?z_tuple
  (case a0=>k_is)
  (case l0=>k_is)
  (case q0=>k_is)
  (case k0=>k_is)
  (case a1=>k_is)
  (case l1=>k_is)
  (case q1=>k_is)
  (case k1=>k_is)
  (case a2=>k_is)
  (case l2=>k_is)
  (case q2=>k_is)
  (case k2=>k_is)
  (case a3=>k_is)
  (case l3=>k_is)
  (case q3=>k_is)
  (case k3=>k_is)
  (case a4=>k_is)
  (case l4=>k_is)
  (case q4=>k_is)
  (case k4=>k_is)
  (case a5=>k_is)
  (case l5=>k_is)
  (case q5=>k_is)
  (case k5=>k_is)
  (case a6=>k_is)
  (case l6=>k_is)
  (case q6=>k_is)
  (case k6=>k_is)
  (case a7=>k_is)
  (case l7=>k_is)
  (case q7=>k_is)
  (case k7=>k_is)
  (case a8=>k_is)
  (case l8=>k_is)
  (case q8=>k_is)
  (case k8=>k_is)
  (case a9=>k_is)
  (case l9=>k_is)
  (case q9=>k_is)
  (case k9=>k_is)
  (case a10=>k_is)
  (case l10=>k_is)
  (case q10=>k_is)
  (case k10=>k_is)
  (case a11=>k_is)
  (case l11=>k_is)
  (case q11=>k_is)
  (case k11=>k_is)
  (case a12=>k_is)
  (case l12=>k_is)
  (case q12=>k_is)
  (case k12=>k_is)
  (case a13=>k_is)
  (case l13=>k_is)
  (case q13=>k_is)
  (case k13=>k_is)
  (case a14=>k_is)
  (case l14=>k_is)
  (case q14=>k_is)
  (case k14=>k_is)
  (case a15=>k_is)
  (case l15=>k_is)
  (case q15=>k_is)
  (case k15=>k_is)
  (case a16=>k_is)
  (case l16=>k_is)
  (case q16=>k_is)
  (case k16=>k_is)
  (case a17=>k_is)
  (case l17=>k_is)
  (case q17=>k_is)
  (case k17=>k_is)
  (case a18=>k_is)
  (case l18=>k_is)
  (case q18=>k_is)
  (case k18=>k_is)
  (case a19=>k_is)
  (case l19=>k_is)
  (case q19=>k_is)
  (case k19=>k_is)
  (case a20=>k_is)
  (case l20=>k_is)
  (case q20=>k_is)
  (case k20=>k_is)
  (case a21=>k_is)
  (case l21=>k_is)
  (case q21=>k_is)
  (case k21=>k_is)
  (case a22=>k_is)
  (case l22=>k_is)
  (case q22=>k_is)
  (case k22=>k_is)
  (case a23=>k_is)
  (case l23=>k_is)
  (case q23=>k_is)
  (case k23=>k_is)
  (case a24=>k_is)
  (case l24=>k_is)
  (case q24=>k_is)
  (case k24=>k_is)
  (case a25=>k_is)
  (case l25=>k_is)
  (case q25=>k_is)
  (case k25=>k_is)
  (case a26=>k_is)
  (case l26=>k_is)
  (case q26=>k_is)
  (case k26=>k_is)
  (case z_enumerate=>k_is)
  (case z_len=>k_is)
  (case z_min=>k_is)
  (case z_range=>k_is)
  (case z_set=>k_is)
  (case z_sorted=>k_is)
  (case z_tuple=>k_is)
