import PyProof.Rows.All
import Wide.All
import OpenK.AllK
import Wide.FinOn
import Lean
import PyProof.EqAt
import PyProof.EqKinds
import PyProof.TupleCall
import PySem.Challenge.RW_wholeglance_k48_orders_or_none
set_option Elab.async false
set_option linter.all false
set_option maxRecDepth 100000
namespace L2
open PySem PySem.Spec PyProof.Rows
abbrev Key:=Sum Int Str
def zm:Key->Value->Bool
 | .inl k,v=>Value.isInt k v
 | .inr x,v=>Value.isStrOf x v
def Ir (w:World):Key->Int
 | .inl k=>hashInt k
 | .inr x=>hashStr w x
theorem cw:∀{k:Key} {v:Value},zm k v=true->(∃i t,k=Sum.inl i/\v=Value.int i t)\/(∃x t,k=Sum.inr x/\v=Value.str x t)
 | .inl i,v,h=>by
  obtain⟨t,e⟩:=Value.isInt_shape (k:=i) (v:=v) h
  exact .inl ⟨i,t,rfl,e⟩
 | .inr x,v,h=>by
  obtain⟨t,e⟩:=Value.isStrOf_shape (x:=x) (v:=v) h
  exact .inr ⟨x,t,rfl,e⟩
theorem De (a b:Int):decide ((Sum.inl a:Key)=Sum.inl b)=(a == b):=by
 by_cases e:a=b
 . subst e;simp
 . have h:¬(Sum.inl a:Key)=Sum.inl b:=fun q=>e (Sum.inl.inj q)
   rw [decide_eq_false h]
   exact(beq_eq_false_iff_ne.mpr e).symm
theorem Dw (a b:Str):decide ((Sum.inr a:Key)=Sum.inr b)=decide (a=b):=by
 by_cases e:a=b
 . subst e;simp
 . have h:¬(Sum.inr a:Key)=Sum.inr b:=fun q=>e (Sum.inr.inj q)
   rw [decide_eq_false h,decide_eq_false e]
theorem EX (a:Int)(b:Str):decide ((Sum.inl a:Key)=Sum.inr b)=false:=decide_eq_false (fun q=>nomatch q)
theorem DU (a:Str)(b:Int):decide ((Sum.inr a:Key)=Sum.inl b)=false:=decide_eq_false (fun q=>nomatch q)
def nC (prog:Program)(w:World):PySem.KeyKind prog w Key where
 is:=zm
 hash:=Ir w
 inj:=fun v a b ha hb=>by
  rcases cw ha with⟨i,t,rfl,rfl⟩ | ⟨x,t,rfl,rfl⟩
  . rcases cw hb with⟨j,u,rfl,e⟩ | ⟨y,u,rfl,e⟩
    . injection e with e1 _;rw [e1]
    . exact nomatch e
  . rcases cw hb with⟨j,u,rfl,e⟩ | ⟨y,u,rfl,e⟩
    . exact nomatch e
    . injection e with e1 _;rw [e1]
 byValue:=fun k v h=>by
  rcases cw h with⟨i,t,rfl,rfl⟩ | ⟨x,t,rfl,rfl⟩<;>rfl
 pyHash:=fun hv h=>by
  rcases cw hv with⟨i,t,rfl,rfl⟩ | ⟨x,t,rfl,rfl⟩
  . exact wpAny_pyHash_int h
  . exact wpAny_pyHash_str h
 eqBool:=fun hu hv h=>by
  rcases cw hu with⟨i,t,rfl,rfl⟩ | ⟨x,t,rfl,rfl⟩
  . rcases cw hv with⟨j,u,rfl,rfl⟩ | ⟨y,u,rfl,rfl⟩
    . rw [De] at h;exact wpAny_eqBool_int h
    . rw [EX] at h;exact SeqAt.EqAt.int_str i t y u _ _ _ _ h
  . rcases cw hv with⟨j,u,rfl,rfl⟩ | ⟨y,u,rfl,rfl⟩
    . rw [DU] at h;exact SeqAt.EqAt.str_int x t j u _ _ _ _ h
    . rw [Dw] at h;exact wpAny_eqBool_str h
 «strs»:=fun k x t v h=>by
  rcases cw h with⟨i,u,rfl,e⟩ | ⟨y,u,rfl,e⟩
  . exact nomatch e
  . injection e with e1 _
    subst e1
    cases v<;>rfl
inductive V where
 | non | bl (b:Bool) | int (i:Int) | str (x:Str) | byt (b:Array UInt8) | dW (b:UInt64) | ref (a:Addr) | ty (n:String)
 deriving DecidableEq
def RelV:V->Value->Prop
 | .non,u=>u=Value.none
 | .bl b,u=>u=Value.bool b
 | .int i,u=>∃t,u=Value.int i t
 | .str x,u=>∃t,u=Value.str x t
 | .byt b,u=>∃t,u=Value.bytes b t
 | .dW b,u=>∃t,u=Value.float b t
 | .ref a,u=>u=Value.ref a
 | .ty n,u=>u=Value.type n
abbrev Vals:List V->List Value->Prop:=Paired RelV
theorem Vals.length {xs:List V}{us:List Value}(r:Vals xs us):xs.length=us.length:=Paired.length r
theorem Vals.get:∀{xs:List V} {us:List Value} {i:Nat} {x:V},Vals xs us->xs[i]? = some x->∃u,us[i]? = some u/\RelV x u
 | _,_,_,_,.nil,e=>by simp at e
 | _,_,0,_,.cons r _,e=>by simp at e;subst e;exact⟨_,rfl,r⟩
 | _,_,i+1,x,.cons _ t,e=>by
  obtain⟨u,h1,h2⟩:=Vals.get (i:=i) (x:=x) t (by simpa using e)
  exact⟨u,by simpa using h1,h2⟩
theorem Vals.set {x:V}{u:Value}(r:RelV x u):∀{xs:List V} {us:List Value} (i:Nat),Vals xs us->Vals (xs.set i x) (us.set i u)
 | _,_,_,.nil=>.nil
 | _,_,0,.cons _ t=>.cons r t
 | _,_,i+1,.cons q t=>.cons q (Vals.set r i t)
theorem Vals.append:∀{xs ys:List V} {us ws:List Value},Vals xs us->Vals ys ws->Vals (xs++ys) (us++ws)
 | _,_,_,_,.nil,s=>s
 | _,_,_,_,.cons r t,s=>.cons r (Vals.append t s)
theorem Vals.take:∀{xs:List V} {us:List Value} (n:Nat),Vals xs us->Vals (xs.take n) (us.take n)
 | _,_,0,_=>.nil
 | _,_,_+1,.nil=>.nil
 | _,_,n+1,.cons r t=>.cons r (Vals.take n t)
theorem Vals.drop:∀{xs:List V} {us:List Value} (n:Nat),Vals xs us->Vals (xs.drop n) (us.drop n)
 | _,_,0,r=>r
 | _,_,_+1,.nil=>.nil
 | _,_,n+1,.cons _ t=>Vals.drop n t
def Em:Option V->Option Value->Prop
 | some v,some u=>RelV v u
 | none,none=>True
 | _,_=>False
def KV {κ:Type}:List (κ×V)->List (κ×Value)->Prop:=Paired fun(p:κ×V) (q:κ×Value)=>p.1=q.1/\RelV p.2 q.2
def kV:Key->V
 | .inl i=>.int i
 | .inr x=>.str x
def dG (h:Heap)(a:Addr)(items:Array Value):Prop:=∃o,h.get? a=some o/\o.cls = .type "tuple" /\ (∃n,o.data = .seq items n)/\o.dict=none
theorem dG.t {h:Heap}{a:Addr}{items:Array Value}(p:dG h a items):IsTup h a items:=let⟨o,h1,h2,h3,_⟩:=p;⟨o,h1,h2,h3⟩
theorem dG.new (h:Heap)(its:Array Value):dG (h.push { cls:=.type "tuple",data:=.seq its }) h.objs.size its:=⟨_,Heap.get?_push_size _ rfl,rfl,⟨_,rfl⟩,rfl⟩
inductive HO where
 | lst (xs:List V)
 | tup (xs:List V)
 | dK (kvs:List (Key×V)) | dT (kvs:List (List Key×V))
 | set (S:Int->Bool) (n:Nat)
 | ins (C dx:Addr) (fs:List (Str×V))
 | own (x:Addr)
 | xd (fs:List (Str×V))
 | met (f x:Addr)
 | dA (lo hi:Int)
 | frz (o:Obj) (u:HO)
 | tbl (ps:Array Value)
 | ext (φ:Heap->Prop)
abbrev Hp:=Addr->Option HO
def upd (H:Hp)(a:Addr)(o:HO):Hp:=fun b=>if b=a then some o else H b
theorem aX {H:Hp}{a:Addr}{o:HO}:upd H a o a=some o:=by unfold upd;rw [if_pos rfl]
theorem aN {H:Hp}{a b:Addr}{o:HO}(h:b≠a):upd H a o b=H b:=by unfold upd;rw [if_neg h]
theorem uC {H:Hp}{a b:Addr}{o u:HO}(h:H a=some o)(h':H b=some u)(d:o≠u):a≠b:=by
 intro e;subst e;rw [h] at h';exact d (Option.some.inj h')
theorem bS {H:Hp}{a b:Addr}{o:HO}(h:H a=some o)(h':H b=none):a≠b:=by
 intro e;subst e;rw [h] at h';cases h'
section
variable (P:Program)(w:World)
def cz (H:Hp)(h:Heap)(a:Addr):HO->Prop
 | .lst xs=>xs.length<=sizeLine /\ ∃(its:List Value) (n:Nat),Vals xs its/\h.get? a=some { cls:=.type "list",data:=.seq its.toArray n }
 | .tup xs=>xs.length<=sizeLine /\ ∃its:List Value,Vals xs its/\dG h a its.toArray
 | .dK kvs=>kvs.length<=sizeLine/\(a == sysModules)=false /\ ∃vs,KV kvs vs/\h.DictOf (nC P w) a vs
 | .dT kvs=>kvs.length<=sizeLine/\(a == sysModules)=false /\ ∃xs:List (List Key×Addr×Value),
  Paired (fun(p:List Key×V) (q:List Key×Addr×Value)=>p.1=q.1/\H q.2.1=some (.tup (p.1.map kV))/\RelV p.2 q.2.2) kvs xs /\
  ∃o es ep,h.get? a=some o/\o.ExactDict/\o.data = .dict es ep/\es.toList=xs.map (entryOfKey (tupleKind (nC P w)))/\(xs.map (·.1)).Nodup
 | .set S n=>h.SetOf (intKind P w) a S n
 | .ins C dx fs=>H dx=some (.own a)/\fs.length<=1000/\dx≠a/\h.get? a=some (PySem.W.instObj C dx) /\
  ∃mA,h.Ns1 dx mA/\(∀f,Em (fs.lookup f) (mA f))/\PySem.Within mA (fs.map (·.1))
 | .own _=>∃o,h.get? a=some o
 | .xd fs=>∃mA,h.Ns1 a mA /\ ∀f,Em (fs.lookup f) (mA f)
 | .dA lo hi=>∃t u v,h.get? a=some { cls:=.type "range",data:=.fields #[.int lo t,.int hi u,.int 1 v] }
 | .frz o u=>h.get? a=some o/\cz H h a u
 | .tbl ps=>h.get? a=some { cls:=.none,data:=.fields ps }
 | .met f x=>h.get? a=some (PySem.W.methodObj (.ref f) (.ref x))
 | .ext φ=>φ h/\(∃o,h.get? a=some o) /\ ∀h1 h2:Heap,φ h1->(∀o,h1.get? a=some o->h2.get? a=some o)->φ h2
def dU (H:Hp)(h:Heap):Prop:=∀a o,H a=some o->cz P w H h a o
end
section
variable {P:Program}{w:World}{H H':Hp}{h h':Heap}{a:Addr}{o:HO}
theorem cz.lt (x:cz P w H h a o):a<h.objs.size:=by
 cases o with
 | lst xs=>obtain⟨_,_,_,_,e⟩:=x;exact Heap.lt_size e
 | tup xs=>obtain⟨_,_,_,p⟩:=x;exact p.t.lt
 | dK kvs=>obtain⟨_,_,_,_,o,_,_,e,_⟩:=x;exact Heap.lt_size e
 | dT kvs=>obtain⟨_,_,_,_,o,_,_,e,_⟩:=x;exact Heap.lt_size e
 | set S n=>obtain⟨o,_,_,_,e,_⟩:=x;exact Heap.lt_size e
 | ins C dx fs=>obtain⟨_,_,_,e,_⟩:=x;exact Heap.lt_size e
 | own y=>obtain⟨_,e⟩:=x;exact Heap.lt_size e
 | xd fs=>obtain⟨_,⟨_,_,_,e,_⟩,_⟩:=x;exact Heap.lt_size e
 | dA lo hi=>obtain⟨_,_,_,e⟩:=x;exact Heap.lt_size e
 | frz ob u=>obtain⟨e,_⟩:=x;exact Heap.lt_size e
 | tbl ps=>exact Heap.lt_size (show h.get? a=some _ from x)
 | met f y=>exact Heap.lt_size (show h.get? a=some _ from x)
 | ext φ=>obtain⟨_,⟨_,e⟩,_⟩:=x;exact Heap.lt_size e
theorem Paired.BR {α β:Type}{F G:α->β->Prop}:∀{l₁:List α} {l₂:List β},Paired F l₁ l₂->(∀a b,F a b->G a b)->Paired G l₁ l₂
 | _,_,.nil,_=>.nil
 | _,_,.cons r t,f=>.cons (f _ _ r) (Paired.BR t f)
theorem cz.ly (x:cz P w H h a o)(k:∀b u,(b=a\/H b=some (.own a))->h.get? b=some u->h'.get? b=some u)
  (ho:∀b,H b=some (.own a)->H' b=some (.own a)) (ht:∀b xs,H b=some (.tup xs)->H' b=some (.tup xs)):cz P w H' h' a o:=by
 induction o with
 | lst xs=>obtain⟨z,its,n,r,e⟩:=x;exact⟨z,its,n,r,k _ _ (.inl rfl) e⟩
 | tup xs=>obtain⟨z,its,r,ob,e,c⟩:=x;exact⟨z,its,r,ob,k _ _ (.inl rfl) e,c⟩
 | dK kvs=>obtain⟨z,y,vs,r,ob,es,ep,e,c⟩:=x;exact⟨z,y,vs,r,ob,es,ep,k _ _ (.inl rfl) e,c⟩
 | dT kvs =>
  obtain⟨z,y,xs,r,ob,es,ep,e,c⟩:=x
  exact⟨z,y,xs,Paired.BR r fun p q z=>⟨z.1,ht _ _ z.2.1,z.2.2⟩,ob,es,ep,k _ _ (.inl rfl) e,c⟩
 | set S n=>obtain⟨ob,es,ep,t,e,c⟩:=x;exact⟨ob,es,ep,t,k _ _ (.inl rfl) e,c⟩
 | ins C dx fs =>
  obtain⟨d,z,ne,e,mA,⟨od,es,ep,e2,c⟩,r⟩:=x
  exact⟨ho _ d,z,ne,k _ _ (.inl rfl) e,mA,⟨od,es,ep,k _ _ (.inr d) e2,c⟩,r⟩
 | own y=>obtain⟨ob,e⟩:=x;exact⟨ob,k _ _ (.inl rfl) e⟩
 | xd fs=>obtain⟨mA,⟨od,es,ep,e,c⟩,r⟩:=x;exact⟨mA,⟨od,es,ep,k _ _ (.inl rfl) e,c⟩,r⟩
 | dA lo hi=>obtain⟨t,u,v,e⟩:=x;exact⟨t,u,v,k _ _ (.inl rfl) e⟩
 | frz ob u ih=>obtain⟨e,q⟩:=x;exact⟨k _ _ (.inl rfl) e,ih q⟩
 | tbl ps =>
  have e:h.get? a=some { cls:=.none,data:=.fields ps }:=x
  show h'.get? a=some { cls:=.none,data:=.fields ps }
  exact k a _ (.inl rfl) e
 | met f y =>
  have e:h.get? a=some (PySem.W.methodObj (.ref f) (.ref y)):=x
  show h'.get? a=some (PySem.W.methodObj (.ref f) (.ref y))
  exact k a _ (.inl rfl) e
 | ext φ=>obtain⟨p,⟨o,e⟩,st⟩:=x;exact⟨st _ _ p fun o q=>k _ _ (.inl rfl) q,⟨o,k _ _ (.inl rfl) e⟩,st⟩
theorem dU.lt (x:dU P w H h)(e:H a=some o):a<h.objs.size:=(x a o e).lt
theorem dU.fresh (x:dU P w H h)(e:h.objs.size<=a):H a=none:=by
 cases q:H a with
 | none=>rfl
 | some u=>exact absurd (Nat.lt_of_lt_of_le (x.lt q) e) (Nat.lt_irrefl _)
theorem dU.kept (x:dU P w H h)(k:∀b u,h.get? b=some u->h'.get? b=some u):dU P w H h':=fun a o e =>
 (x a o e).ly (fun b u _ q=>k b u q) (fun _ q=>q) fun _ _ q=>q
theorem dU.laid (x:dU P w H h)(k:∀b u,h.get? b=some u->h'.get? b=some u)(hp:h.objs.size<=a)(new:cz P w (upd H a o) h' a o):dU P w (upd H a o) h':=fun b u e=>by
 have hn:=x.fresh hp
 by_cases hb:b=a
 . subst hb;rw [aX] at e;cases e;exact new
 . rw [aN hb] at e
   exact(x b u e).ly (fun c v _ q=>k c v q) (fun c q=>by rw [aN (bS q hn)];exact q) fun c xs q=>by rw [aN (bS q hn)];exact q
end
def Rd (H:Hp)(a:Addr)(u:HO):Prop:=H a=some u \/ ∃o,H a=some (.frz o u)
theorem Rd.ok {P:Program}{w:World}{H:Hp}{h:Heap}{a:Addr}{u:HO}(r:Rd H a u)(x:dU P w H h):cz P w H h a u:=by
 rcases r with r | ⟨o,r⟩
 . exact x a u r
 . obtain⟨_,q⟩:=x a _ r
   exact q
def zc:Option HO->Prop
 | some (.lst _)=>True
 | some (.dK _)=>True
 | some (.dT _)=>True
 | some (.set _ _)=>True
 | some (.ins _ _ _)=>True
 | some (.ext _)=>True
 | _=>False
section
variable {P:Program}{w:World}{H:Hp}{h h':Heap}{x e:Addr}{o':HO}
theorem dU.write (ok:dU P w H h)(mu:zc (H x))(he:e=x\/H e=some (.own x))(k:∀b u,b≠e->h.get? b=some u->h'.get? b=some u)(heo:∃u,h'.get? e=some u)
   (new:cz P w (upd H x o') h' x o'):dU P w (upd H x o') h':=fun b u q=>by
 have nown:∀c y,H c=some (.own y)->c≠x:=fun c y r z=>by subst z;rw [r] at mu;exact mu
 have ntup:∀c xs,H c=some (.tup xs)->c≠x:=fun c xs r z=>by subst z;rw [r] at mu;exact mu
 by_cases hb:b=x
 . subst hb;rw [aX] at q;cases q;exact new
 . rw [aN hb] at q
   by_cases hbe:b=e
   . have q':H b=some (.own x):=by
       rcases he with z | z
       . exact absurd (hbe.trans z) hb
       . rw [hbe];exact z
     rw [q] at q';cases q'
     obtain⟨v,hv⟩:=heo
     exact⟨v,by rw [hbe];exact hv⟩
   . refine(ok b u q).ly (fun c v hc r=>k c v ?_ r) (fun c r=>by rw [aN (nown c b r)];exact r) fun c xs r=>by rw [aN (ntup c xs r)];exact r
     rcases hc with rfl | hc
     . exact hbe
     . rintro rfl
       rcases he with z | z
       . exact nown c b hc z
       . rw [hc] at z;cases z;exact hb rfl
end
structure Un (fs ex:List Addr)(H H':Hp)(h h':Heap):Prop where
 keep:∀b o,h.get? b=some o->H b=none->b ∉ fs->b ∉ ex->h'.get? b=some o
 slot:∀b o,h.get? b=some o->H b=none->b∈fs->b ∉ ex->∃sl,h'.get? b=some { o with slots:=sl }
 free:∀b o,h.get? b=some o->H b=none->b ∉ ex->H' b=none
 there:∀b o,h.get? b=some o->b ∉ ex->∃o',h'.get? b=some o'
 tups:∀b xs,H b=some (.tup xs)->H' b=some (.tup xs)
 frzs:∀b o u,H b=some (.frz o u)->H' b=some (.frz o u)
 tbls:∀b ps,H b=some (.tbl ps)->∃more,H' b=some (.tbl (ps++more))
section
variable {fs fs' ex ex':List Addr}{H H1 H2:Hp}{h h1 h2 h':Heap}{a x e:Addr}{o:HO}
theorem Un.any (u:Un fs ex H H1 h h1){b:Addr}{ob:Obj}(q:h.get? b=some ob)(n:H b=none)(hx:b ∉ ex):∃sl,h1.get? b=some { ob with slots:=sl }:=by
 by_cases hb:b∈fs
 . exact u.slot b ob q n hb hx
 . exact⟨ob.slots,u.keep b ob q n hb hx⟩
theorem Un.kept (k:∀b u,h.get? b=some u->h'.get? b=some u):Un fs ex H H h h' :=
 ⟨fun b ob q _ _ _=>k b ob q,fun b ob q _ _ _=>⟨ob.slots,k b ob q⟩,fun _ _ _ n _=>n,fun b ob q _=>⟨ob,k b ob q⟩,fun _ _ q=>q,fun _ _ _ q=>q,fun _ ps q=>⟨#[],by rw [q];simp⟩⟩
theorem Un.refl:Un fs ex H H h h:=Un.kept fun _ _ q=>q
theorem Un.laid (k:∀b u,h.get? b=some u->h'.get? b=some u)(hp:h.objs.size<=a)(hn:H a=none):Un fs ex H (upd H a o) h h' where
 keep:=fun b u q _ _ _=>k b u q
 slot:=fun b u q _ _ _=>⟨u.slots,k b u q⟩
 free:=fun b u q n _=>by rw [aN (Nat.ne_of_lt (Nat.lt_of_lt_of_le (Heap.lt_size q) hp))];exact n
 there:=fun b u q _=>⟨u,k b u q⟩
 tups:=fun b xs q=>by rw [aN (bS q hn)];exact q
 frzs:=fun b u xs q=>by rw [aN (bS q hn)];exact q
 tbls:=fun b ps q=>⟨#[],by rw [aN (bS q hn),q];simp⟩
theorem Un.write (mu:zc (H x))(he:e=x\/H e=some (.own x))(k:∀b u,b≠e->h.get? b=some u->h'.get? b=some u)(heo:∃u,h'.get? e=some u):Un fs ex H (upd H x o) h h':=by
 have hx:∀b,H b=none->b≠x:=fun b n z=>by subst z;rw [n] at mu;exact mu
 have hb:∀b,H b=none->b≠e:=fun b n z=>by
   subst z
   rcases he with r | r
   . exact hx b n r
   . rw [n] at r;cases r
 have hm:∀b u,H b=some u->¬zc (some u)->b≠x:=fun b u q nm z=>by subst z;rw [q] at mu;exact nm mu
 refine⟨fun b u q n _ _=>k b u (hb b n) q,fun b u q n _ _=>⟨u.slots,k b u (hb b n) q⟩,fun b u q n _=>by rw [aN (hx b n)];exact n,fun b u q _=>?_,
   fun b xs q=>by rw [aN (hm b _ q fun z=>z)];exact q,fun b u xs q=>by rw [aN (hm b _ q fun z=>z)];exact q,fun b ps q=>⟨#[],by rw [aN (hm b _ q fun z=>z),q];simp⟩⟩
 by_cases hbe:b=e
 . subst hbe;exact heo
 . exact⟨u,k b u hbe q⟩
end
def nY (h:Heap)(H:Hp):List Addr:=(List.range h.objs.size).filter fun a=>(H a).isSome
def jl (h:Heap)(H:Hp):Heap:=PySem.W.hideAll h (nY h H)
theorem vX (h:Heap)(H:Hp):(jl h H).objs.size=h.objs.size:=PySem.W.hideAll_size _ _
theorem xP {h:Heap}{H:Hp}{b:Addr}{o:Obj}(e:h.get? b=some o)(n:H b=none):(jl h H).get? b=some o :=
 PySem.W.hideAll_get _ e fun hm=>by
  have q:(H b).isSome=true:=(List.mem_filter.mp hm).2
  rw [n] at q;simp at q
theorem Bb {h:Heap}{H:Hp}{b:Addr}{o:Obj}(e:(jl h H).get? b=some o):h.get? b=some o/\H b=none:=by
 have e':h.get? b=some o:=PySem.W.of_hideAll (nY h H) e
 refine⟨e',?_⟩
 cases q:H b with
 | none=>rfl
 | some x =>
  have hm:b∈nY h H:=List.mem_filter.mpr ⟨List.mem_range.mpr (Heap.lt_size e'),by simp [q]⟩
  have z:(jl h H).get? b=none:=PySem.W.hideAll_none (nY h H) hm
  rw [z] at e;cases e
def z9 (g h:Heap)(L:Addr):List (Addr×Obj):=(List.range h.objs.size).filterMap fun a=>if a=L\/(g.get? a).isSome=true then none else(h.get? a).map fun o=>(a,o)
def rest (g h:Heap)(L d:Addr):List (Addr×Obj):=(z9 g h L).filter fun p=>decide (p.1≠d)
structure Mod (K:PySem.W.Frag)(mg:Str->Option Value)(base:Heap):Prop where
 kin:K.In base
 glob:base.Ns mainGlobals mg
 blt:∃mb,base.Ns builtinsNs mb /\ ∀x:Str,x ≠ "__name__"->mb x=bootBuiltins x
 nolimit:base.NoLimit
structure Cx where
 prog:Program
 w:World
 K:PySem.W.Frag
 mg:Str->Option Value
 base:Heap
 A:Around
 N:List Str
 s₀:Shared
 H₀:Hp
 env:Env
 outer:List Env
 stack:List Env
 ex:List Addr
 fn:Str->Bool
 calm:Bool
 pn:List (Addr×Obj)
 xe:Value->Shared->Prop
def jw (l:List Env):List Addr:=l.filterMap (·.frame)
abbrev Cx.fs (X:Cx):List Addr:=jw X.outer
def CL (sc:Scope)(x:Str):Prop:=sc.names.lookup x=some .local\/sc.names.lookup x=some .cell\/sc.names.lookup x=some .free
def Loc (sc:Scope)(x:Str):Prop:=sc.names.lookup x=some .local\/sc.names.lookup x=some .cell
def Look (env:Env)(h:Heap)(m:Str->Option Value)(x:Str)(u:Value):Prop :=
 (env.kindOf x=some .local/\m x=some u)\/((env.kindOf x=some .cell\/env.kindOf x=some .free) /\ ∃c,env.cells.lookup x=some c/\h.IsCell c (some u))
structure Cx.Ok (X:Cx):Prop where
 mod:Mod X.K X.mg X.base
 kind:X.env.scope.kind = .function
 glob:X.env.globals=mainGlobals
 blt:X.env.builtins=builtinsNs
 above:X.s₀.heap.objs.size<=X.env.locals
 inj:∀x y c,X.env.cells.lookup x=some c->X.env.cells.lookup y=some c->x=y
 has:∀x,(X.env.kindOf x=some .cell\/X.env.kindOf x=some .free)->∃c,X.env.cells.lookup x=some c
 cab:∀x c,X.fn x=true->X.env.cells.lookup x=some c->X.s₀.heap.objs.size<=c
 hd:X.calm=true->X.A.handled=none
 frames:X.A.frames=some X.stack
 stk:X.stack=X.outer\/(X.stack=X.env::X.outer/\X.env.frame=some X.env.locals)
 exf:∀b∈X.ex,b≠X.env.locals /\ ∀x c,X.env.cells.lookup x=some c->c≠b
 bs:∀b o,X.base.get? b=some o->X.s₀.heap.get? b=some o/\X.H₀ b=none
 bsz:X.base.objs.size<=X.s₀.heap.objs.size
 noex:∀b o,X.base.get? b=some o->b ∉ X.ex
 exfs:∀b∈X.ex,b ∉ X.fs
 gU:X.s₀.heap.FunFrames X.base X.outer
 frf:∀b∈X.fs,X.H₀ b=none
structure Inv (X:Cx)(pins:List (Addr×Obj))(σ:List (Option V))(H:Hp)(s:Shared):Prop where
 ok:X.Ok
 os:s.os=X.s₀.os
 bare:AllBare s.gens
 base:Un X.fs X.ex X.H₀ H X.s₀.heap s.heap
 loc:∃m,s.heap.Ns X.env.locals m /\ ∀(i:Nat) (x:Str) (v:V),X.N[i]? = some x->σ[i]? = some (some v)->CL X.env.scope x->∃u,RelV v u/\Look X.env s.heap m x u
 cell:∀x c,X.env.cells.lookup x=some c->∃v,s.heap.IsCell c v
 free:H X.env.locals=none
 freeC:∀x c,X.env.cells.lookup x=some c->H c=none
 pin:∀p∈X.pn++pins,s.heap.get? p.1=some p.2/\H p.1=none/\p.1≠X.env.locals/\p.1 ∉ X.fs /\ ∀v,p.2.data ≠ .cell v
 hok:dU X.prog X.w H s.heap
 len:σ.length=X.N.length
section
variable {X:Cx}{pins:List (Addr×Obj)}{σ:List (Option V)}{H H':Hp}{s:Shared}{h':Heap}
theorem Cx.Ok.HH (ok:X.Ok){b:Addr}{o:Obj}(e:X.base.get? b=some o):b ∉ X.fs:=fun hb=>by
 have:=(ok.gU.mem hb).1
 rw [e] at this;cases this
theorem Inv.bs (I:Inv X pins σ H s):∀b o,X.base.get? b=some o->s.heap.get? b=some o/\H b=none:=fun b o e =>
 ⟨I.base.keep b o (I.ok.bs b o e).1 (I.ok.bs b o e).2 (I.ok.HH e) (I.ok.noex b o e),I.base.free b o (I.ok.bs b o e).1 (I.ok.bs b o e).2 (I.ok.noex b o e)⟩
theorem Inv.bk (I:Inv X pins σ H s):∀b o,X.base.get? b=some o->s.heap.get? b=some o:=fun b o e=>(I.bs b o e).1
theorem Inv.mod (I:Inv X pins σ H s):Mod X.K X.mg X.base:=I.ok.mod
theorem Inv.gB (I:Inv X pins σ H s):X.K.In s.heap:=I.ok.mod.kin.keeps I.bk
theorem Inv.lt (I:Inv X pins σ H s):X.env.locals<s.heap.objs.size:=let⟨_,hn,_⟩:=I.loc;hn.lt
theorem Inv.sz (I:Inv X pins σ H s):X.s₀.heap.objs.size<=s.heap.objs.size:=Nat.le_trans I.ok.above (Nat.le_of_lt I.lt)
theorem Inv.II (I:Inv X pins σ H s){a:Addr}(h:s.heap.objs.size<=a):a ∉ X.fs:=fun hb=>by
 obtain⟨_,o,ho,_⟩:=I.ok.gU.mem hb
 exact absurd (Nat.lt_of_lt_of_le (Heap.lt_size ho) (Nat.le_trans I.sz h)) (Nat.lt_irrefl _)
theorem Inv.pz (I:Inv X pins σ H s):∀x c,X.env.cells.lookup x=some c->c≠X.env.locals:=fun x c e z=>by
 obtain⟨v,o,ho,hd⟩:=I.cell x c e
 obtain⟨m,⟨o',es,ep,ho',hd',_⟩,_⟩:=I.loc
 rw [z,ho'] at ho;cases ho;rw [hd'] at hd;cases hd
theorem Inv.gU (I:Inv X pins σ H s):s.heap.FunFrames X.base X.outer:=by
 have all:∀(l:List Env),(∀b∈jw l,b∈X.fs)->X.s₀.heap.FunFrames X.base l->s.heap.FunFrames X.base l:=by
  intro l
  induction l with
  | nil=>intro _ _;trivial
  | cons env r ih =>
   intro hs hl
   obtain⟨hk,⟨L,o,hf,hn,ho,hd⟩,hr⟩:=hl
   have hL:L∈X.fs:=hs L (by unfold jw;rw [List.filterMap_cons,hf];exact List.mem_cons_self)
   obtain⟨sl,e⟩:=I.base.slot L o ho (I.ok.frf L hL) hL fun z=>I.ok.exfs L z hL
   exact⟨hk,⟨L,_,hf,hn,e,hd⟩,ih (fun b hb=>hs b (by unfold jw;rw [List.filterMap_cons,hf];exact List.mem_cons_of_mem _ hb)) hr⟩
 exact all X.outer (fun _ hb=>hb) I.ok.gU
theorem Inv.stack (I:Inv X pins σ H s):s.heap.FunFrames X.base X.stack:=by
 rcases I.ok.stk with e | ⟨e,hf⟩
 . rw [e];exact I.gU
 . rw [e]
   obtain⟨m,hn,_⟩:=I.loc
   refine .cons (by rw [I.ok.kind];decide) hf hn ?_ I.gU
   exact Heap.get?_none_of_le (Nat.le_trans I.ok.bsz I.ok.above)
theorem Inv.qW (I:Inv X pins σ H s):∀b∈jw X.stack,b∈X.env.locals::X.fs:=fun b hb=>by
 rcases I.ok.stk with e | ⟨e,hf⟩
 . rw [e] at hb;exact List.mem_cons_of_mem _ hb
 . rw [e] at hb
   unfold jw at hb
   rw [List.filterMap_cons,hf] at hb
   exact hb
theorem Inv.sH (I:Inv X pins σ H s):∀b∈jw X.stack,H b=none:=fun b hb=>by
 rcases List.mem_cons.mp (I.qW b hb) with e | hb
 . rw [e];exact I.free
 . obtain⟨_,o,ho,_⟩:=I.ok.gU.mem hb
   exact I.base.free b o ho (I.ok.frf b hb) fun z=>I.ok.exfs b z hb
theorem Inv.step {g':Array GenState}{t':Nat}{d':Drawn}{ch:List Addr}(I:Inv X pins σ H s)
   (hch:∀b∈ch,(b∈X.ex\/X.s₀.heap.objs.size<=b)/\b≠X.env.locals/\(∀x c,X.env.cells.lookup x=some c->c≠b) /\ ∀p∈X.pn++pins,p.1≠b)
   (keep:∀b o,b≠X.env.locals->b ∉ X.fs->b ∉ ch->s.heap.get? b=some o->H b=none->h'.get? b=some o)
   (slot:∀b o,b≠X.env.locals->b∈X.fs->b ∉ ch->s.heap.get? b=some o->H b=none->∃sl,h'.get? b=some { o with slots:=sl }) (free:∀b o,b ∉ ch->s.heap.get? b=some o->H b=none->H' b=none)
   (there:∀b o,b ∉ ch->s.heap.get? b=some o->∃o',h'.get? b=some o')
   (tups:∀b xs,H b=some (.tup xs)->H' b=some (.tup xs)) (frzs:∀b o u,H b=some (.frz o u)->H' b=some (.frz o u)) (tbls:∀b ps,H b=some (.tbl ps)->∃more,H' b=some (.tbl (ps++more)))
   (ns:∀m,s.heap.Ns X.env.locals m->h'.Ns X.env.locals m) (hok:dU X.prog X.w H' h') (hg:AllBare g') :
   Inv X pins σ H' { s with heap:=h',gens:=g',drawn:=d',toks:=t' }:=by
 have neL:∀b o,X.s₀.heap.get? b=some o->b≠X.env.locals:=fun b o e=>Nat.ne_of_lt (Nat.lt_of_lt_of_le (Heap.lt_size e) I.ok.above)
 have neC:∀b o,X.s₀.heap.get? b=some o->b ∉ X.ex->b ∉ ch:=fun b o e hx hb=>by
   rcases (hch b hb).1 with z | z
   . exact hx z
   . exact absurd (Nat.lt_of_lt_of_le (Heap.lt_size e) z) (Nat.lt_irrefl _)
 have cellK:∀x c,X.env.cells.lookup x=some c->∀v,s.heap.IsCell c v->h'.IsCell c v:=fun x c e v ⟨o,ho,hd⟩=>by
   have nch:c ∉ ch:=fun z=>(hch c z).2.2.1 x c e rfl
   by_cases hc:c∈X.fs
   . obtain⟨sl,q⟩:=slot c o (I.pz x c e) hc nch ho (I.freeC x c e)
     exact⟨_,q,hd⟩
   . exact⟨o,keep c o (I.pz x c e) hc nch ho (I.freeC x c e),hd⟩
 refine⟨I.ok,I.os,hg,⟨fun b o e n hb hx=>?_,fun b o e n hb hx=>?_,fun b o e n hx=>?_,fun b o e hx=>?_,fun b xs e=>tups b xs (I.base.tups b xs e),fun b o xs e=>frzs b o xs (I.base.frzs b o xs e),fun b ps e=>?_⟩,?_,fun x c e=>?_,?_,fun x c e=>?_,fun p hp=>?_,hok,I.len⟩
 . exact keep b o (neL b o e) hb (neC b o e hx) (I.base.keep b o e n hb hx) (I.base.free b o e n hx)
 . obtain⟨sl,e1⟩:=I.base.slot b o e n hb hx
   obtain⟨sl',e2⟩:=slot b _ (neL b o e) hb (neC b o e hx) e1 (I.base.free b o e n hx)
   exact⟨sl',e2⟩
 . obtain⟨o',e1⟩:=I.base.there b o e hx
   exact free b o' (neC b o e hx) e1 (I.base.free b o e n hx)
 . obtain⟨o',e1⟩:=I.base.there b o e hx
   exact there b o' (neC b o e hx) e1
 . obtain⟨m1,e1⟩:=I.base.tbls b ps e
   obtain⟨m2,e2⟩:=tbls b _ e1
   exact⟨m1++m2,by rw [e2,Array.append_assoc]⟩
 . obtain⟨m,hn,hl⟩:=I.loc
   refine⟨m,ns m hn,fun i x v e1 e2 e3=>?_⟩
   obtain⟨u,r,l⟩:=hl i x v e1 e2 e3
   refine⟨u,r,?_⟩
   rcases l with l | ⟨k,c,e,z⟩
   . exact .inl l
   . exact .inr ⟨k,c,e,cellK x c e _ z⟩
 . obtain⟨v,z⟩:=I.cell x c e
   exact⟨v,cellK x c e v z⟩
 . obtain⟨m,⟨o,_,_,ho,_⟩,_⟩:=I.loc
   exact free _ o (fun z=>(hch _ z).2.1 rfl) ho I.free
 . obtain⟨v,o,ho,hd⟩:=I.cell x c e
   exact free c o (fun z=>(hch c z).2.2.1 x c e rfl) ho (I.freeC x c e)
 . obtain⟨e,n,ne,nf,d⟩:=I.pin p hp
   have nch:p.1 ∉ ch:=fun z=>(hch p.1 z).2.2.2 p hp rfl
   exact⟨keep p.1 p.2 ne nf nch e n,free p.1 p.2 nch e n,ne,nf,d⟩
theorem Inv.un {t':Nat}(I:Inv X pins σ H s)(u:Un X.fs [] H H' s.heap h')(hok:dU X.prog X.w H' h'):Inv X pins σ H' { s with heap:=h',toks:=t' }:=by
 obtain⟨m,⟨o,es,ep,ho,r⟩,_⟩:=id I.loc
 obtain⟨sl,hL⟩:=u.any ho I.free (by simp)
 exact I.step (g':=s.gens) (d':=s.drawn) (ch:=[]) (fun _ z=>nomatch z) (fun b o _ hb _ e n=>u.keep b o e n hb (by simp)) (fun b o _ hb _ e n=>u.slot b o e n hb (by simp)) (fun b o _ e n=>u.free b o e n (by simp)) (fun b o _ e=>u.there b o e (by simp)) u.tups u.frzs u.tbls (fun m' hm=>by
  obtain⟨o',es',ep',ho',r'⟩:=hm
  rw [ho] at ho';cases ho'
  exact⟨_,es',ep',hL,r'⟩) hok I.bare
theorem Inv.call {g':Array GenState}{t':Nat}{d':Drawn}{ch:List Addr}(I:Inv X pins σ H s)(u:Un (jw X.stack) ch H H' s.heap h')(hok:dU X.prog X.w H' h')(hg:AllBare g')
  (hch:∀b∈ch,(b∈X.ex\/X.s₀.heap.objs.size<=b)/\b≠X.env.locals/\(∀x c,X.env.cells.lookup x=some c->c≠b) /\ ∀p∈X.pn++pins,p.1≠b) :
  Inv X pins σ H' { s with heap:=h',gens:=g',drawn:=d',toks:=t' }:=by
 obtain⟨m,⟨o,es,ep,ho,r⟩,_⟩:=id I.loc
 obtain⟨sl,hL⟩:=u.any ho I.free fun z=>(hch _ z).2.1 rfl
 exact I.step (ch:=ch) hch (fun b o hL hb hc e n=>u.keep b o e n (fun z=>(List.mem_cons.mp (I.qW b z)).elim hL hb) hc) (fun b o _ _ hc e n=>u.any e n hc) (fun b o hc e n=>u.free b o e n hc) (fun b o hc e=>u.there b o e hc) u.tups u.frzs u.tbls (fun m' hm=>by
  obtain⟨o',es',ep',ho',r'⟩:=hm
  rw [ho] at ho';cases ho'
  exact⟨_,es',ep',hL,r'⟩) hok hg
theorem Inv.turned {t':Nat}{it:Addr}(I:Inv X pins σ H s)(k:∀b o,b≠it->s.heap.get? b=some o->h'.get? b=some o)(hn:H it=none)(hL:it≠X.env.locals)
   (h1:it∈X.ex\/X.s₀.heap.objs.size<=it) (h2:∀x c,X.env.cells.lookup x=some c->c≠it) (h3:∀p∈X.pn++pins,p.1≠it):Inv X pins σ H { s with heap:=h',toks:=t' }:=by
 have nit:∀b u,H b=some u->b≠it:=fun b u e z=>by rw [z,hn] at e;cases e
 refine I.step (g':=s.gens) (d':=s.drawn) (ch:=[it]) (fun b hb=>?_) (fun b o _ _ hc e _=>k b o (fun z=>hc (by simp [z])) e) (fun b o _ _ hc e _=>⟨o.slots,k b o (fun z=>hc (by simp [z])) e⟩) (fun _ _ _ _ n=>n)
   (fun b o hc e=>⟨o,k b o (fun z=>hc (by simp [z])) e⟩) (fun _ _ e=>e) (fun _ _ _ e=>e) (fun b ps e=>⟨#[],by rw [e];simp⟩) (fun m hm=>?_) (fun b u e=>?_) I.bare
 . have e:b=it:=by simpa using hb
   subst e
   exact⟨h1,hL,h2,h3⟩
 . obtain⟨o,es,ep,ho,r⟩:=hm
   exact⟨o,es,ep,k _ o (Ne.symm hL) ho,r⟩
 . refine(I.hok b u e).ly (fun c v hc q=>k c v ?_ q) (fun _ q=>q) fun _ _ q=>q
   rcases hc with z | z
   . rw [z];exact nit b u e
   . exact nit c _ z
theorem Inv.tok (I:Inv X pins σ H s)(t:Nat):Inv X pins σ H { s with toks:=t }:=I.un (h':=s.heap) (t':=t) Un.refl I.hok
theorem Inv.kept {t':Nat}(I:Inv X pins σ H s)(k:∀b u,s.heap.get? b=some u->h'.get? b=some u):Inv X pins σ H { s with heap:=h',toks:=t' }:=I.un (Un.kept k) (I.hok.kept k)
theorem Inv.laid {a:Addr}{o:HO}{t':Nat}(I:Inv X pins σ H s)(k:∀b u,s.heap.get? b=some u->h'.get? b=some u)(hp:s.heap.objs.size<=a)(new:cz X.prog X.w (upd H a o) h' a o) :
 Inv X pins σ (upd H a o) { s with heap:=h',toks:=t' }:=I.un (Un.laid k hp (I.hok.fresh hp)) (I.hok.laid k hp new)
theorem Inv.write {x e:Addr}{o:HO}{t':Nat}(I:Inv X pins σ H s)(mu:zc (H x))(he:e=x\/H e=some (.own x))(k:∀b u,b≠e->s.heap.get? b=some u->h'.get? b=some u)(heo:∃u,h'.get? e=some u)
 (new:cz X.prog X.w (upd H x o) h' x o):Inv X pins σ (upd H x o) { s with heap:=h',toks:=t' }:=I.un (Un.write mu he k heo) (I.hok.write mu he k heo new)
theorem Inv.sN {pins':List (Addr×Obj)}(I:Inv X pins σ H s)(h:∀p∈pins',s.heap.get? p.1=some p.2/\H p.1=none/\p.1≠X.env.locals/\p.1 ∉ X.fs /\ ∀v,p.2.data ≠ .cell v):Inv X pins' σ H s :=
 ⟨I.ok,I.os,I.bare,I.base,I.loc,I.cell,I.free,I.freeC,fun p hp=>(List.mem_append.mp hp).elim (fun z=>I.pin p (List.mem_append_left _ z)) (h p),I.hok,I.len⟩
theorem pJ {N:List Str}(hN:N.Nodup){i j:Nat}{x:Str}(a:N[i]? = some x)(b:N[j]? = some x):i=j:=by
 obtain⟨h1,e1⟩:=List.getElem?_eq_some_iff.mp a
 obtain⟨h2,e2⟩:=List.getElem?_eq_some_iff.mp b
 exact(List.getElem_inj hN).mp (e1.trans e2.symm)
theorem jH {M:Model}{A:Around}{E:Value->Shared->Prop}{i:Nat}{x:Str}{v:V}{u:Value}{Q:Unit->Shared->Prop}(I:Inv X pins σ H s)(hN:X.N.Nodup)(hi:X.N[i]? = some x)(hx:Loc X.env.scope x)(r:RelV v u)
   (h:∀s',Inv X pins (σ.set i (some v)) H s'->(∃a,Heap.SameBut a s.heap s'.heap/\(a=X.env.locals\/X.env.cells.lookup x=some a))->Q () s') (hf:X.fn x=true\/X.env.scope.names.lookup x=some .local:=by first | exact .inl rfl | exact .inr rfl | assumption):wpAny M A (storeName X.env x u) Q E s:=by
 obtain⟨m,hn,hl⟩:=id I.loc
 have hcls:(X.env.scope.kind == .class||(X.env.scope.kind == .module&&X.env.locals != X.env.globals))=false:=by rw [I.ok.kind];rfl
 have hiσ:i < σ.length:=by rw [I.len];exact(List.getElem?_eq_some_iff.mp hi).1
 have pz:=I.pz
 have tracked:∀{a:Addr} {h':Heap},(∃o,s.heap.get? a=some o/\H a=none)->Heap.SameBut a s.heap h'->dU X.prog X.w H h':=fun {a h'} ha hs b ob e=>by
   obtain⟨_,_,hfree⟩:=ha
   refine(I.hok b ob e).ly (fun c w' hc q=>(hs.2 c ?_).trans q) (fun _ q=>q) fun _ _ q=>q
   rintro rfl
   rcases hc with rfl | hc
   . rw [hfree] at e;cases e
   . rw [hfree] at hc;cases hc
 rcases hx with hk | hk
 . refine wpAny_storeName_local hk hn (fun h' hn' hs=>?_) hcls
   obtain⟨oL,_,_,hoL,_⟩:=id hn
   refine h _ ⟨I.ok,I.os,I.bare,⟨fun b o e n hb hx=>?_,fun b o e n hb hx=>?_,I.base.free,fun b o e hx=>?_,I.base.tups,I.base.frzs,I.base.tbls⟩,⟨_,hn',fun j y v' e1 e2 e3=>?_⟩,fun y c e=>?_,I.free,I.freeC,fun p hp=>?_,tracked ⟨oL,hoL,I.free⟩ hs,by simpa using I.len⟩ ⟨_,hs,.inl rfl⟩
   . exact(hs.2 b (Nat.ne_of_lt (Nat.lt_of_lt_of_le (Heap.lt_size e) I.ok.above))).trans (I.base.keep b o e n hb hx)
   . obtain⟨sl,e1⟩:=I.base.slot b o e n hb hx
     exact⟨sl,(hs.2 b (Nat.ne_of_lt (Nat.lt_of_lt_of_le (Heap.lt_size e) I.ok.above))).trans e1⟩
   . obtain⟨o',e1⟩:=I.base.there b o e hx
     exact⟨o',(hs.2 b (Nat.ne_of_lt (Nat.lt_of_lt_of_le (Heap.lt_size e) I.ok.above))).trans e1⟩
   . by_cases hj:j=i
     . subst hj
       rw [hi] at e1;cases e1
       rw [List.getElem?_set_self hiσ] at e2
       cases e2
       exact⟨u,r,.inl ⟨hk,by simp⟩⟩
     . rw [List.getElem?_set_ne (Ne.symm hj)] at e2
       obtain⟨u',r',q⟩:=hl j y v' e1 e2 e3
       refine⟨u',r',?_⟩
       rcases q with⟨k,e⟩ | ⟨k,c,e,z⟩
       . refine .inl ⟨k,?_⟩
         have:y≠x:=fun e=>hj (pJ hN e1 (e ▸ hi))
         simp [this,e]
       . exact .inr ⟨k,c,e,z.sameBut hs (pz y c e)⟩
   . obtain⟨w',z⟩:=I.cell y c e
     exact⟨w',z.sameBut hs (pz y c e)⟩
   . obtain⟨e,n,ne,nf,d⟩:=I.pin p hp
     exact⟨(hs.2 p.1 ne).trans e,n,ne,nf,d⟩
 . have hfn:X.fn x=true:=by
     rcases hf with z | z
     . exact z
     . rw [z] at hk;cases hk
   obtain⟨c,hc⟩:=I.ok.has x (.inl hk)
   obtain⟨w',z⟩:=I.cell x c hc
   refine wpAny_storeName_cell I.ok.kind hk hc z (fun h' hc' hs=>?_)
   obtain⟨oc,hoc,hocd⟩:=id z
   refine h { s with heap:=h' } ⟨I.ok,I.os,I.bare,⟨fun b o e n hb hx=>?_,fun b o e n hb hx=>?_,I.base.free,fun b o e hx=>?_,I.base.tups,I.base.frzs,I.base.tbls⟩,⟨m,hn.sameBut hs (Ne.symm (pz x c hc)),fun j y v' e1 e2 e3=>?_⟩,fun y c' e=>?_,I.free,I.freeC,fun p hp=>?_,tracked ⟨oc,hoc,I.freeC x c hc⟩ hs,by simpa using I.len⟩ ⟨c,hs,.inr hc⟩
   . exact(hs.2 b (Nat.ne_of_lt (Nat.lt_of_lt_of_le (Heap.lt_size e) (I.ok.cab x c hfn hc)))).trans (I.base.keep b o e n hb hx)
   . obtain⟨sl,e1⟩:=I.base.slot b o e n hb hx
     exact⟨sl,(hs.2 b (Nat.ne_of_lt (Nat.lt_of_lt_of_le (Heap.lt_size e) (I.ok.cab x c hfn hc)))).trans e1⟩
   . obtain⟨o',e1⟩:=I.base.there b o e hx
     exact⟨o',(hs.2 b (Nat.ne_of_lt (Nat.lt_of_lt_of_le (Heap.lt_size e) (I.ok.cab x c hfn hc)))).trans e1⟩
   . by_cases hj:j=i
     . subst hj
       rw [hi] at e1;cases e1
       rw [List.getElem?_set_self hiσ] at e2
       cases e2
       exact⟨u,r,.inr ⟨.inl hk,c,hc,hc'⟩⟩
     . rw [List.getElem?_set_ne (Ne.symm hj)] at e2
       obtain⟨u',r',q⟩:=hl j y v' e1 e2 e3
       refine⟨u',r',?_⟩
       rcases q with q | ⟨k,c',e,z'⟩
       . exact .inl q
       . refine .inr ⟨k,c',e,z'.sameBut hs ?_⟩
         rintro rfl
         exact hj (pJ hN e1 (I.ok.inj _ _ _ e hc ▸ hi))
   . by_cases hcc:c'=c
     . subst hcc;exact⟨_,hc'⟩
     . obtain⟨w2,z2⟩:=I.cell y c' e
       exact⟨w2,z2.sameBut hs hcc⟩
   . obtain⟨e,n,ne,nf,d⟩:=I.pin p hp
     refine⟨(hs.2 p.1 ?_).trans e,n,ne,nf,d⟩
     intro q
     rw [q,hoc] at e
     have q':oc=p.2:=Option.some.inj e
     exact d w' (by rw [<- q'];exact hocd)
theorem je {M:Model}{A:Around}{E:Value->Shared->Prop}{i:Nat}{x:Str}{v:V}{u:Value}{Q:Unit->Shared->Prop}(I:Inv X pins σ H s)(hN:X.N.Nodup)(hi:X.N[i]? = some x)(hx:Loc X.env.scope x)(r:RelV v u)
  (h:∀s',Inv X pins (σ.set i (some v)) H s'->Q () s') (hf:X.fn x=true\/X.env.scope.names.lookup x=some .local:=by first | exact .inl rfl | exact .inr rfl | assumption):wpAny M A (storeName X.env x u) Q E s :=
 jH I hN hi hx r (fun s' I' _=>h s' I') hf
theorem Inv.uD {s':Shared}{ch:List Addr}(I:Inv X pins σ H s)(ho:s'.os=s.os)(u:Un (jw X.stack) ch H H' s.heap s'.heap)(hok:dU X.prog X.w H' s'.heap)(hg:AllBare s'.gens)
  (hch:∀b∈ch,(b∈X.ex\/X.s₀.heap.objs.size<=b)/\b≠X.env.locals/\(∀x c,X.env.cells.lookup x=some c->c≠b) /\ ∀p∈X.pn++pins,p.1≠b):Inv X pins σ H' s':=by
 obtain⟨h',g',d',t',o'⟩:=s'
 have e:o'=s.os:=ho
 subst e
 exact I.call (g':=g') (t':=t') (d':=d') u hok hg hch
end
abbrev XK:=Value->Option Addr->Hp->Prop
abbrev St:=List (Option V)
abbrev VK:=V->Hp->Prop
abbrev TE:=St->Hp->VK->Prop
abbrev TT:=St->Hp->(Bool->Hp->Prop)->Prop
abbrev TA:=St->Hp->(List V->Hp->Prop)->Prop
structure Ends where
 nx:St->Hp->Prop
 rt:VK
 bk:St->Hp->Prop:=fun _ _=>False
 ct:St->Hp->Prop:=fun _ _=>False
abbrev TS:=Ends->St->Hp->Prop
def EP (X:Cx)(pins:List (Addr×Obj))(σ:St)(Q:VK)(u:Value)(s':Shared):Prop:=∃v H',Inv X pins σ H' s'/\RelV v u/\Q v H'
def TP (X:Cx)(pins:List (Addr×Obj))(σ:St)(Q:Bool->Hp->Prop)(b:Bool)(s':Shared):Prop:=∃H',Inv X pins σ H' s'/\Q b H'
def AP (X:Cx)(pins:List (Addr×Obj))(σ:St)(Q:List V->Hp->Prop)(us:List Value)(s':Shared):Prop:=∃vs H',Inv X pins σ H' s'/\Vals vs us/\Q vs H'
def SP (X:Cx)(pins:List (Addr×Obj))(D:Ends)(f:Flow)(s':Shared):Prop :=
 match f with
 | .next=>∃σ' H',Inv X pins σ' H' s'/\D.nx σ' H'
 | .brk=>∃σ' H',Inv X pins σ' H' s'/\D.bk σ' H'
 | .cont=>∃σ' H',Inv X pins σ' H' s'/\D.ct σ' H'
 | .ret u=>∃v σ' H',Inv X pins σ' H' s'/\RelV v u/\D.rt v H'
def PE (X:Cx)(e:Expr)(t:TE):Prop :=
 ∀(pins:List (Addr×Obj)) (s:Shared) (σ:St) (H:Hp) (Q:VK),Inv X pins σ H s->t σ H Q->wpAny (model X.prog X.w) X.A (eval e X.env) (EP X pins σ Q) X.xe s
def PT (X:Cx)(e:Expr)(t:TT):Prop :=
 ∀(pins:List (Addr×Obj)) (s:Shared) (σ:St) (H:Hp) (Q:Bool->Hp->Prop),Inv X pins σ H s->t σ H Q->wpAny (model X.prog X.w) X.A (isTrue e X.env (eval e X.env)) (TP X pins σ Q) X.xe s
def PW (X:Cx)(e:Expr)(t:TT):Prop :=
 ∀(whole:Sem Value) (pins:List (Addr×Obj)) (s:Shared) (σ:St) (H:Hp) (Q:Bool->Hp->Prop),Inv X pins σ H s->t σ H Q->wpAny (model X.prog X.w) X.A (isTrue e X.env whole) (TP X pins σ Q) X.xe s
theorem PW.pt {X:Cx}{e:Expr}{t:TT}(h:PW X e t):PT X e t:=h _
def PA (X:Cx)(es:List Expr)(t:TA):Prop :=
 ∀(pos:Pos) (pins:List (Addr×Obj)) (s:Shared) (σ:St) (H:Hp) (Q:List V->Hp->Prop),Inv X pins σ H s->t σ H Q->wpAny (model X.prog X.w) X.A (spliced (backTo pos (starEach es X.env))) (AP X pins σ Q) X.xe s
def PS (X:Cx)(st:Stmt)(t:TS):Prop :=
 ∀(pins:List (Addr×Obj)) (s:Shared) (σ:St) (H:Hp) (D:Ends),Inv X pins σ H s->t D σ H->wpAny (model X.prog X.w) X.A (exec st X.env) (SP X pins D) X.xe s
def fu (X:Cx)(st:List Stmt)(t:TS):Prop :=
 ∀(pins:List (Addr×Obj)) (s:Shared) (σ:St) (H:Hp) (D:Ends),Inv X pins σ H s->t D σ H->wpAny (model X.prog X.w) X.A (execs st X.env) (SP X pins D) X.xe s
theorem aU {α:Type}{t:Sem α}{Q Q':α->Shared->Prop}{M:Model}{A:Around}{E:Value->Shared->Prop}{s:Shared}(h:wpAny M A t Q E s)(hQ:∀a s,Q a s->Q' a s):wpAny M A t Q' E s:=wpAny_mono h hQ fun _ _ x=>x
section
variable {X:Cx}
def Ji (i:Nat):TE:=fun σ H Q=>∃v,σ[i]? = some (some v)/\Q v H
def tC (v:V):TE:=fun _ H Q=>Q v H
theorem ED {i:Nat}{x:Str}{pos:Pos}(hN:X.N[i]? = some x)(hv:CL X.env.scope x)(hd:(x == ("__debug__":Str))=false:=by decide)(hcd:(x == ("__classdict__":Str))=false:=by decide):PE X (.Name x pos) (Ji i):=by
 intro pins s σ H Q I h
 obtain⟨v,e,h⟩:=h
 obtain⟨m,hn,hl⟩:=I.loc
 obtain⟨u,r,l⟩:=hl i x v hN e hv
 have fin:EP X pins σ Q u s:=⟨v,H,I,r,h⟩
 rcases l with⟨hk,hm⟩ | ⟨hk,c,hc,hcell⟩
 . exact wpAny_Name (wpAny_loadName_local I.ok.kind hk hn hm fin) hd
 . rcases hk with hk | hk
   . exact wpAny_Name (wpAny_loadName_cell I.ok.kind hk hc hcell fin) hd
   . exact wpAny_Name (wpAny_loadName_free I.ok.kind hk hc hcell fin hcd) hd
theorem E2 {i j pos}:PE X (.Constant (.int i) j pos) (tC (.int i)):=fun _ _ _ H _ I h=>wpAny_Constant_int ⟨.int i,H,I.tok _,⟨_,rfl⟩,h⟩
theorem Ft {b j pos}:PE X (.Constant (.bool b) j pos) (tC (.bl b)):=fun _ _ _ H _ I h=>Constant_bool ⟨.bl b,H,I,rfl,h⟩
theorem CJ {j pos}:PE X (.Constant .none j pos) (tC .non):=fun _ _ _ H _ I h=>Constant_none ⟨.non,H,I,rfl,h⟩
theorem B4 {x j pos}:PE X (.Constant (.str x) j pos) (tC (.str x)):=fun _ _ _ H _ I h=>Calls.Constant_str ⟨.str x,H,I.tok _,⟨_,rfl⟩,h⟩
def Gl (X:Cx)(x:Str):Prop:=X.env.kindOf x=some .globalImplicit
theorem nB {E:Value->Shared->Prop}{pins:List (Addr×Obj)}{s:Shared}{σ:St}{H:Hp}{x:Str}{u:Value}{pos:Pos}{Q:Value->Shared->Prop}(I:Inv X pins σ H s)(hg:Gl X x)(hm:X.mg x=some u)(h:Q u s)
  (hd:(x == ("__debug__":Str))=false:=by decide):wpAny (model X.prog X.w) X.A (eval (.Name x pos) X.env) Q E s :=
 Calls.Name_function_global I.ok.kind hg (Calls.loadGlobal_global (by rw [I.ok.glob];exact I.mod.glob.keeps I.bk) hm h) hd
theorem eY {E:Value->Shared->Prop}{pins:List (Addr×Obj)}{s:Shared}{σ:St}{H:Hp}{x:Str}{u:Value}{pos:Pos}{Q:Value->Shared->Prop}(I:Inv X pins σ H s)(hg:Gl X x)(hm:X.mg x=none)(hv:bootBuiltins x=some u)(h:Q u s)
  (hn:x ≠ "__name__":=by decide) (hd:(x == ("__debug__":Str))=false:=by decide):wpAny (model X.prog X.w) X.A (eval (.Name x pos) X.env) Q E s:=by
 obtain⟨mb,h1,h2⟩:=I.mod.blt
 exact Calls.Name_function_global I.ok.kind hg (Calls.loadGlobal_builtin (by rw [I.ok.glob];exact I.mod.glob.keeps I.bk) hm (by rw [I.ok.blt];exact h1.keeps I.bk) ((h2 x hn).trans hv) h) hd
theorem sh {x:Str}{v:V}{u:Value}{pos:Pos}(hg:Gl X x)(hm:X.mg x=some u)(r:RelV v u)(hd:(x == ("__debug__":Str))=false:=by decide):PE X (.Name x pos) (tC v) :=
 fun _ _ _ H _ I h=>nB I hg hm ⟨v,H,I,r,h⟩ hd
theorem zU {x:Str}{v:V}{u:Value}{pos:Pos}(hg:Gl X x)(hm:X.mg x=none)(hv:bootBuiltins x=some u)(r:RelV v u)(hn:x ≠ "__name__":=by decide)(hd:(x == ("__debug__":Str))=false:=by decide):PE X (.Name x pos) (tC v) :=
 fun _ _ _ H _ I h=>eY I hg hm hv ⟨v,H,I,r,h⟩ hn hd
variable {a b:Expr}{ta tb:TE}{pos:Pos}
def tB (t:TE):TT:=fun σ H Q=>t σ H fun x H1=>∃c,x = .bl c/\Q c H1
variable {tA tB':TT}{rest:List Expr}
def Ja (t u:TT):TT:=fun σ H Q=>t σ H fun c H1=>if c=true then u σ H1 Q else Q false H1
def KC (t u:TT):TT:=fun σ H Q=>t σ H fun c H1=>if c=true then Q true H1 else u σ H1 Q
def HP (t:TT):TT:=fun σ H Q=>t σ H fun c H1=>Q (!c) H1
theorem AL (ha:PT X a tA):PW X (.BoolOp .And [a] pos) tA:=by
 intro wh pins s σ H Q I h
 refine isTrue_and (aU (ha pins s σ H Q I h) fun c s1 e=>?_)
 cases c with
 | true=>exact isTrue_and_nil e
 | false=>exact e
theorem EA (ha:PT X a tA):PW X (.BoolOp .Or [a] pos) tA:=by
 intro wh pins s σ H Q I h
 refine isTrue_or (aU (ha pins s σ H Q I h) fun c s1 e=>?_)
 cases c with
 | false=>exact isTrue_or_nil e
 | true=>exact e
theorem Ed (ha:PT X a tA)(hb:PW X (.BoolOp .And (b::rest) pos) tB'):PW X (.BoolOp .And (a::b::rest) pos) (Ja tA tB'):=by
 intro wh pins s σ H Q I h
 refine isTrue_and (aU (ha pins s σ H _ I h) fun c s1 ⟨H1,I1,q1⟩=>?_)
 cases c with
 | true=>exact hb wh pins s1 σ H1 Q I1 q1
 | false=>exact⟨H1,I1,q1⟩
theorem FN (ha:PT X a tA)(hb:PW X (.BoolOp .Or (b::rest) pos) tB'):PW X (.BoolOp .Or (a::b::rest) pos) (KC tA tB'):=by
 intro wh pins s σ H Q I h
 refine isTrue_or (aU (ha pins s σ H _ I h) fun c s1 ⟨H1,I1,q1⟩=>?_)
 cases c with
 | true=>exact⟨H1,I1,q1⟩
 | false=>exact hb wh pins s1 σ H1 Q I1 q1
theorem CD (ha:PT X a tA):PT X (.UnaryOp .Not a pos) (HP tA):=by
 intro pins s σ H Q I h
 exact isTrue_not (ha pins s σ H (fun c H1=>Q (!c) H1) I h)
def Fq (ta tb:TE):TE:=fun σ H Q=>ta σ H fun x H1=>∃c,x = .bl c/\if c=true then tb σ H1 Q else Q (.bl false) H1
def Js (ta tb:TE):TE:=fun σ H Q=>ta σ H fun x H1=>∃c,x = .bl c/\if c=true then Q (.bl true) H1 else tb σ H1 Q
theorem Ez {op}{t:TE}(h:PE X a t):PE X (.BoolOp op [a] pos) t:=fun pins s σ H Q I hw=>BoolOp_one (h pins s σ H Q I hw)
theorem Ff (ha:PE X a ta)(hb:PE X (.BoolOp .And (b::rest) pos) tb):PE X (.BoolOp .And (a::b::rest) pos) (Fq ta tb):=by
 intro pins s σ H Q I h
 refine BoolOp_and (aU (ha pins s σ H _ I h) fun v s1 ⟨x,H1,I1,r1,q1⟩=>?_)
 obtain⟨c,rfl,q1⟩:=q1
 cases r1
 refine wpAny_truthy_bool ?_
 cases c with
 | true=>exact hb pins s1 σ H1 Q I1 q1
 | false=>exact⟨.bl false,H1,I1,rfl,q1⟩
theorem FL (ha:PE X a ta)(hb:PE X (.BoolOp .Or (b::rest) pos) tb):PE X (.BoolOp .Or (a::b::rest) pos) (Js ta tb):=by
 intro pins s σ H Q I h
 refine BoolOp_or (aU (ha pins s σ H _ I h) fun v s1 ⟨x,H1,I1,r1,q1⟩=>?_)
 obtain⟨c,rfl,q1⟩:=q1
 cases r1
 refine wpAny_truthy_bool ?_
 cases c with
 | false=>exact hb pins s1 σ H1 Q I1 q1
 | true=>exact⟨.bl true,H1,I1,rfl,q1⟩
def KR (t:TT)(ta tb:TE):TE:=fun σ H Q=>t σ H fun c H1=>if c=true then ta σ H1 Q else tb σ H1 Q
theorem xf {c:Expr}(hc:PT X c tA)(ha:PE X a ta)(hb:PE X b tb):PE X (.IfExp c a b pos) (KR tA ta tb):=by
 intro pins s σ H Q I h
 refine wpAny_IfExp (aU (hc pins s σ H _ I h) fun d s1 ⟨H1,I1,q1⟩=>?_)
 cases d with
 | true=>exact ha pins s1 σ H1 Q I1 q1
 | false=>exact hb pins s1 σ H1 Q I1 q1
end
def cD (K:PySem.W.Frag)(H:Hp)(a:Addr)(xs:List V):Prop :=
 Rd H a (.lst xs) \/
  ∃(o:Obj) (its:Array Value) (n:Nat),K.lookup a=some o/\o.cls = .type "list" /\ o.dict=none/\o.data = .seq its n/\its.size<=sizeLine/\Vals xs its.toList
def dh (K:PySem.W.Frag)(H:Hp)(a:Addr)(xs:List V):Prop :=
 Rd H a (.tup xs) \/
  ∃(o:Obj) (its:Array Value) (n:Nat),K.lookup a=some o/\o.cls = .type "tuple" /\ o.dict=none/\o.data = .seq its n/\its.size<=sizeLine/\Vals xs its.toList
def Jq:Value->Option V
 | .none=>some .non
 | .bool b=>some (.bl b)
 | .int i _=>some (.int i)
 | .str x _=>some (.str x)
 | .bytes b _=>some (.byt b)
 | .float b _=>some (.dW b)
 | .ref a=>some (.ref a)
 | .type n=>some (.ty n)
 | _=>none
theorem RelV.abs {x:V}{u:Value}(r:RelV x u):Jq u=some x:=by
 cases x with
 | non=>cases r;rfl
 | bl _=>cases r;rfl
 | int _=>obtain⟨t,rfl⟩:=r;rfl
 | str _=>obtain⟨t,rfl⟩:=r;rfl
 | byt _=>obtain⟨t,rfl⟩:=r;rfl
 | dW _=>obtain⟨t,rfl⟩:=r;rfl
 | ref _=>cases r;rfl
 | ty _=>cases r;rfl
theorem RelV.inj {x y:V}{u:Value}(r:RelV x u)(q:RelV y u):x=y:=Option.some.inj (r.abs.symm.trans q.abs)
theorem Vals.inj:∀{xs ys:List V} {us:List Value},Vals xs us->Vals ys us->xs=ys
 | _,_,_,.nil,.nil=>rfl
 | _,_,_,.cons r t,.cons r' t'=>by rw [r.inj r',Vals.inj t t']
section
variable {X:Cx}{pins:List (Addr×Obj)}{σ:St}{H:Hp}{s:Shared}{a:Addr}{xs ys:List V}
theorem cD.of {K:PySem.W.Frag}(h:H a=some (.lst xs)):cD K H a xs:=.inl (.inl h)
theorem Inv.list (I:Inv X pins σ H s)(h:cD X.K H a xs):∃its:List Value,Vals xs its/\PlainL s.heap a its.toArray/\xs.length<=sizeLine:=by
 rcases h with h | ⟨o,its,n,hk,hc,hd,hs,hz,r⟩
 . obtain⟨z,its,n,r,e⟩:=h.ok I.hok
   exact⟨its,r,⟨_,n,e,rfl,rfl,rfl⟩,z⟩
 . refine⟨its.toList,r,⟨o,n,I.gB a o hk,hc,hd,by simpa using hs⟩,?_⟩
   have e:=r.length
   simp only [Array.length_toList] at e
   omega
theorem Inv.Co (I:Inv X pins σ H s)(h:dh X.K H a xs):∃its:List Value,Vals xs its/\dG s.heap a its.toArray/\xs.length<=sizeLine:=by
 rcases h with h | ⟨o,its,n,hk,hc,hd,hs,hz,r⟩
 . obtain⟨z,its,r,p⟩:=h.ok I.hok
   exact⟨its,r,p,z⟩
 . refine⟨its.toList,r,⟨o,I.gB a o hk,hc,⟨n,by simpa using hs⟩,hd⟩,?_⟩
   have e:=r.length
   simp only [Array.length_toList] at e
   omega
theorem Inv.tuple (I:Inv X pins σ H s)(h:dh X.K H a xs):∃its:List Value,Vals xs its/\IsTup s.heap a its.toArray/\xs.length<=sizeLine :=
 let⟨its,r,p,z⟩:=I.Co h
 ⟨its,r,p.t,z⟩
theorem Inv.lq (I:Inv X pins σ H s)(h:cD X.K H a xs)(h':cD X.K H a ys):xs=ys:=by
 obtain⟨its,r,⟨o,n,e,_,_,d⟩,_⟩:=I.list h
 obtain⟨its',r',⟨o',n',e',_,_,d'⟩,_⟩:=I.list h'
 rw [e] at e';cases e'
 rw [d] at d'
 injection d' with d1 _
 have:its=its':=by simpa using congrArg Array.toList d1
 subst this
 exact r.inj r'
theorem Inv.jS (I:Inv X pins σ H s)(h:dh X.K H a xs)(h':dh X.K H a ys):xs=ys:=by
 obtain⟨its,r,⟨o,e,_,n,d⟩,_⟩:=I.tuple h
 obtain⟨its',r',⟨o',e',_,n',d'⟩,_⟩:=I.tuple h'
 rw [e] at e';cases e'
 rw [d] at d'
 injection d' with d1 _
 have:its=its':=by simpa using congrArg Array.toList d1
 subst this
 exact r.inj r'
end
abbrev Cx.iC (X:Cx)(E:Value->Shared->Prop):Cx:={ X with xe:=E }
abbrev Cx.sT (X:Cx):Cx:=X.iC fun _ _=>False
theorem Cx.Ok.iC {X:Cx}(ok:X.Ok)(E:Value->Shared->Prop):(X.iC E).Ok :=
 ⟨ok.mod,ok.kind,ok.glob,ok.blt,ok.above,ok.inj,ok.has,ok.cab,ok.hd,ok.frames,ok.stk,ok.exf,ok.bs,ok.bsz,ok.noex,ok.exfs,ok.gU,ok.frf⟩
theorem Cx.Ok.f7 {X:Cx}{E:Value->Shared->Prop}(ok:(X.iC E).Ok):X.Ok :=
 ⟨ok.mod,ok.kind,ok.glob,ok.blt,ok.above,ok.inj,ok.has,ok.cab,ok.hd,ok.frames,ok.stk,ok.exf,ok.bs,ok.bsz,ok.noex,ok.exfs,ok.gU,ok.frf⟩
section
variable {X:Cx}{pins:List (Addr×Obj)}{σ:St}{H:Hp}{s:Shared}{E:Value->Shared->Prop}
theorem Inv.iC (I:Inv X pins σ H s)(E:Value->Shared->Prop):Inv (X.iC E) pins σ H s:=⟨I.ok.iC E,I.os,I.bare,I.base,I.loc,I.cell,I.free,I.freeC,I.pin,I.hok,I.len⟩
theorem Inv.f7 (I:Inv (X.iC E) pins σ H s):Inv X pins σ H s:=⟨I.ok.f7,I.os,I.bare,I.base,I.loc,I.cell,I.free,I.freeC,I.pin,I.hok,I.len⟩
theorem SP.f7 {D:Ends}{f:Flow}{s':Shared}(h:SP (X.iC E) pins D f s'):SP X pins D f s':=by
 cases f with
 | next=>obtain⟨σ',H',I,q⟩:=h;exact⟨σ',H',I.f7,q⟩
 | brk=>obtain⟨σ',H',I,q⟩:=h;exact⟨σ',H',I.f7,q⟩
 | cont=>obtain⟨σ',H',I,q⟩:=h;exact⟨σ',H',I.f7,q⟩
 | ret u=>obtain⟨v,σ',H',I,r,q⟩:=h;exact⟨v,σ',H',I.f7,r,q⟩
theorem fu.sT {st:List Stmt}{t:TS}(h:fu X.sT st t):fu X st t:=fun pins s σ H D I hw =>
 wpAny_mono (h pins s σ H D (I.iC _) hw) (fun _ _ q=>q.f7) fun _ _ z=>False.elim z
end
section
variable {X:Cx}{st:Stmt}{rest:List Stmt}{t u:TS}{e:Expr}{te:TE}{pos:Pos}
def tW:TS:=fun D σ H=>D.nx σ H
def Ij (t u:TS):TS:=fun D σ H=>t { D with nx:=u D } σ H
theorem Bl:fu X [] tW:=fun _ _ σ H _ I h=>wpAny_execs_nil ⟨σ,H,I,h⟩
theorem xH (h1:PS X st t)(h2:fu X rest u):fu X (st::rest) (Ij t u):=by
 intro pins s σ H D I h
 refine wpAny_execs_cons (aU (h1 pins s σ H { D with nx:=u D } I h) fun f s1 q=>?_)
 cases f with
 | next =>
  obtain⟨σ',H',I',q⟩:=q
  exact h2 pins s1 σ' H' D I' q
 | ret v=>exact q
 | brk=>exact q
 | cont=>exact q
theorem As (h1:PS X st t):fu X [st] t:=by
 intro pins s σ H D I h
 refine wpAny_execs_cons (aU (h1 pins s σ H D I h) fun f s1 q=>?_)
 cases f with
 | next=>exact wpAny_execs_nil q
 | ret v=>exact q
 | brk=>exact q
 | cont=>exact q
def FX:TS:=fun D σ H=>D.ct σ H
theorem Aw:PS X (.Pass pos) tW:=fun _ _ σ H _ I h=>wpAny_Pass ⟨σ,H,I,h⟩
theorem rq:PS X (.Continue pos) FX:=fun _ _ σ H _ I h=>wpAny_Continue ⟨σ,H,I,h⟩
theorem Inv.quiet {pins:List (Addr×Obj)}{σ:St}{H:Hp}{s:Shared}(I:Inv X pins σ H s):interactive X.env=false:=by simp [interactive,I.ok.kind]
theorem Ec {x j pos pos'}:PS X (.Expr (.Constant (.str x) j pos) pos') tW:=fun _ s σ H _ I h=>wpAny_Expr (Calls.Constant_str (show SP X _ _ .next { s with toks:=s.toks+1 } from⟨σ,H,I.tok _,h⟩)) I.quiet
def Ge (te:TE):TS:=fun D σ H=>te σ H fun _ H1=>D.nx σ H1
theorem z_ (he:PE X e te)(hs:swapsWith e none pos.line X.env=pure false:=by rfl):PS X (.Expr e pos) (Ge te):=by
 intro pins s σ H D I h
 exact wpAny_Expr_any (aU (he pins s σ H _ I h) fun v s1 ⟨x,H1,I1,r1,q1⟩=>⟨σ,H1,I1,q1⟩) I.quiet hs
def IV (te:TE):TS:=fun D σ H=>te σ H D.rt
theorem DD (he:PE X e te):PS X (.Return (some e) pos) (IV te):=by
 intro pins s σ H D I h
 exact wpAny_Return_some (aU (he pins s σ H _ I h) fun v s1 ⟨x,H1,I1,r1,q1⟩=>⟨x,σ,H1,I1,r1,q1⟩)
def JD (c:TT)(t u:TS):TS:=fun D σ H=>c σ H fun b H1=>if b=true then t D σ H1 else u D σ H1
theorem Fz {c:Expr}{a b:List Stmt}{tc:TT}(hc:PT X c tc)(ha:fu X a t)(hb:fu X b u):PS X (.If c a b pos) (JD tc t u):=by
 intro pins s σ H D I h
 refine wpAny_If (aU (hc pins s σ H _ I h) fun d s1 ⟨H1,I1,q1⟩=>?_)
 cases d with
 | true=>exact ha pins s1 σ H1 D I1 q1
 | false=>exact hb pins s1 σ H1 D I1 q1
end
abbrev TG:=V->St->Hp->(St->Hp->Prop)->Prop
abbrev n0:=List V->St->Hp->(St->Hp->Prop)->Prop
def PG (X:Cx)(target:Expr)(t:TG):Prop :=
 ∀(pins:List (Addr×Obj)) (s:Shared) (σ:St) (H:Hp) (v:V) (u:Value) (Q:St->Hp->Prop),Inv X pins σ H s->RelV v u->t v σ H Q ->
  wpAny (model X.prog X.w) X.A (assign target X.env u) (fun _ s'=>∃σ' H',Inv X pins σ' H' s'/\Q σ' H') X.xe s
def kN (X:Cx)(ts:List Expr)(t:n0):Prop :=
 ∀(pins:List (Addr×Obj)) (s:Shared) (σ:St) (H:Hp) (vs:List V) (us:List Value) (Q:St->Hp->Prop),Inv X pins σ H s->Vals vs us->t vs σ H Q ->
  wpAny (model X.prog X.w) X.A (assignInOrder ((assignEach ts X.env).map (·.2)) us) (fun _ s'=>∃σ' H',Inv X pins σ' H' s'/\Q σ' H') X.xe s
abbrev xD:=V->V->V->Hp->(Hp->Prop)->Prop
def x9 (X:Cx)(t:xD):Prop :=
 ∀(pins:List (Addr×Obj)) (s:Shared) (σ:St) (H:Hp) (o i v:V) (ov iv u:Value) (Q:Hp->Prop),Inv X pins σ H s->RelV o ov->RelV i iv->RelV v u->t o i v H Q ->
  wpAny (model X.prog X.w) X.A (setItem ov iv u) (fun _ s'=>∃H',Inv X pins σ H' s'/\Q H') X.xe s
section
variable {X:Cx}{pos:Pos}
def zH (i:Nat):TG:=fun v σ H Q=>Q (σ.set i (some v)) H
theorem AG {i:Nat}{x:Str}(hN:X.N.Nodup)(hi:X.N[i]? = some x)(hx:Loc X.env.scope x)(hf:X.fn x=true\/X.env.scope.names.lookup x=some .local:=by first | exact .inl rfl | exact .inr rfl | assumption):PG X (.Name x pos) (zH i):=by
 intro pins s σ H v u Q I r h
 exact wpAny_assign_Name (je I hN hi hx r (fun s' I'=>⟨_,H,I',h⟩) hf)
def HY:n0:=fun vs σ H Q=>vs = []/\Q σ H
def GA (t:TG)(u:n0):n0:=fun vs σ H Q=>∃v r,vs=v::r/\t v σ H fun σ' H'=>u r σ' H' Q
theorem Bt:kN X [] HY:=by
 intro pins s σ H vs us Q I r h
 obtain⟨e,h⟩:=h
 subst e
 cases r
 exact assignInOrder_nil ⟨σ,H,I,h⟩
theorem w8 {e:Expr}{es:List Expr}{t:TG}{u:n0}(h1:PG X e t)(h2:kN X es u)
  (hs:(assignEach (e::es) X.env).map (·.2)=assign e X.env::(assignEach es X.env).map (·.2):=by rfl):kN X (e::es) (GA t u):=by
 intro pins s σ H vs us Q I r h
 obtain⟨v,vr,e1,h⟩:=h
 subst e1
 cases r with
 | cons r rr =>
  rw [hs]
  refine assignInOrder_cons (aU (h1 pins s σ H _ _ _ I r h) fun _ s1 ⟨σ1,H1,I1,q1⟩=>?_)
  exact h2 pins s1 σ1 H1 _ _ Q I1 rr q1
def Jm (K:PySem.W.Frag)(n:Nat)(t:n0):TG:=fun v σ H Q=>∃a xs,v = .ref a/\dh K H a xs/\xs.length=n/\t xs σ H Q
theorem EI {es:List Expr}{k:Nat}{t:n0}{n:Nat}(hc:X.calm=true)(h:kN X es t)
  (hn:(assignEach es X.env).length=n:=by rfl) (hst:(assignEach es X.env).findIdx? (·.1)=none:=by rfl):PG X (.Tuple es k pos) (Jm X.K n t):=by
 intro pins s σ H v u Q I r hw
 obtain⟨a,xs,e1,hq,hl,hw⟩:=hw
 subst e1
 cases r
 obtain⟨its,rv,ht,hz⟩:=I.tuple hq
 refine assign_Tuple_tuple (I.ok.hd hc) ht (by simp [hn,<- hl,rv.length]) hst fun h' hx=>?_
 have I1:Inv X pins σ H { s with heap:=h' }:=I.kept (t':=s.toks) fun b o e=>hx b o (Nat.ne_of_lt (Heap.lt_size e)) e
 exact h pins _ σ H xs _ Q I1 (by simpa using rv) hw
def Jv (to ti:TE)(t:xD):TG:=fun v σ H Q=>to σ H fun o H1=>ti σ H1 fun i H2=>t o i v H2 fun H3=>Q σ H3
theorem Ct {o i:Expr}{to ti:TE}{t:xD}(ho:PE X o to)(hi:PE X i ti)(hs:x9 X t)
  (ha:∀v,assign (.Subscript o i pos) X.env v=(do
   let ov <- holding [v] (eval o X.env)
   let iv <- holding [v,ov] (eval i X.env)
   standAt pos
   holding [v,ov,iv] (setItem ov iv v)
   release [v,ov,iv] []):=by intro _;rfl):PG X (.Subscript o i pos) (Jv to ti t):=by
 intro pins s σ H v u Q I r h
 rw [ha]
 refine wpAny_bind (wpAny_holding (aU (ho pins s σ H _ I h) fun ov s1 ⟨x,H1,I1,r1,q1⟩=>?_))
 refine wpAny_bind (wpAny_holding (aU (hi pins s1 σ H1 _ I1 q1) fun iv s2 ⟨y,H2,I2,r2,q2⟩=>?_))
 refine wpAny_bind (wpAny_standAt (wpAny_bind (wpAny_holding (aU (hs pins s2 σ H2 x y v ov iv u _ I2 r1 r2 r q2) fun _ s3 ⟨H3,I3,q3⟩=>?_))))
 exact wpAny_release ⟨σ,H3,I3,q3⟩
def ym (te:TE)(g:TG):TS:=fun D σ H=>te σ H fun x H1=>g x σ H1 D.nx
theorem Eu {tg e:Expr}{te:TE}{g:TG}(he:PE X e te)(hg:PG X tg g)(hs:swapsWithSole [tg] e pos.line X.env=pure false:=by rfl)(hw:swappedStores [tg] e X.env=pure none:=by rfl)
  (h1:(assignEach [tg] X.env).map (·.2) = [assign tg X.env]:=by rfl):PS X (.Assign [tg] e pos) (ym te g):=by
 intro pins s σ H D I h
 refine wpAny_Assign_stores (aU (he pins s σ H _ I h) fun v s1 ⟨x,H1,I1,r1,q1⟩=>?_) hs hw
 rw [h1]
 exact aU (hg pins s1 σ H1 x v _ I1 r1 q1) fun _ s2 q=>q
theorem Ep {i:Nat}{x:Str}{e:Expr}{te:TE}{pos':Pos}(hN:X.N.Nodup)(hi:X.N[i]? = some x)(hx:Loc X.env.scope x)(he:PE X e te)(hs:swapsWith e (some (.Name x pos')) pos.line X.env=pure false:=by rfl)(hf:X.fn x=true\/X.env.scope.names.lookup x=some .local:=by first | exact .inl rfl | exact .inr rfl | assumption) :
  PS X (.Assign [.Name x pos'] e pos) (ym te (zH i)):=by
 intro pins s σ H D I h
 refine wpAny_Assign_Name (aU (he pins s σ H _ I h) fun v s1 ⟨y,H1,I1,r1,q1⟩=>?_) hs
 exact je I1 hN hi hx r1 (fun s2 I2=>⟨_,H1,I2,q1⟩) hf
def Jz (i j:Nat)(ta:TA):TS:=fun D σ H=>ta σ H fun vs H1=>∃v w,vs = [v,w]/\D.nx ((σ.set i (some v)).set j (some w)) H1
theorem Fb {i j:Nat}{x y:Str}{a b:Expr}{ta:TA}{px py pt:Pos}{kt k2 gW}(hc:X.calm=true)(hN:X.N.Nodup)(hi:X.N[i]? = some x)(hj:X.N[j]? = some y)(hij:i≠j)
  (hx:X.env.scope.names.lookup x=some .local) (hy:X.env.scope.names.lookup y=some .local) (ha:PA X [a,b] ta)
  (hw:swappedStores [.Tuple [.Name x px,.Name y py] kt pt] (.Tuple [a,b] k2 gW) X.env=pure (some [x,y]))
  (hs:swapsWithSole [.Tuple [.Name x px,.Name y py] kt pt] (.Tuple [a,b] k2 gW) pos.line X.env=pure false:=by rfl) :
  PS X (.Assign [.Tuple [.Name x px,.Name y py] kt pt] (.Tuple [a,b] k2 gW) pos) (Jz i j ta):=by
 intro pins s σ H D I h
 rw [exec_Assign_arm]
 refine wpAny_bind (wpAny_standAt ?_)
 rw [hs]
 refine wpAny_bind (wpAny_pure ?_)
 rw [if_neg (by decide)]
 refine wpAny_bind (Tuple_ (aU (ha _ pins s σ H _ I h) fun us s1 ⟨vs,H1,I1,r1,q1⟩=>?_))
 obtain⟨v,w,e1,q1⟩:=q1
 subst e1
 obtain⟨u1,u2,rfl,rv,rw'⟩:∃u1 u2,us = [u1,u2]/\RelV v u1/\RelV w u2:=by
  cases r1 with
  | cons p q =>
   cases q with
   | cons p' q' =>
    cases q'
    exact⟨_,_,rfl,p,p'⟩
 refine wpAny_newObj_type ?_ (by show 2<=sizeLine;decide)
 have I2:Inv X pins σ H1 { s1 with heap:=s1.heap.push { cls:=.type "tuple",data:=.seq [u1,u2].toArray } }:=I1.kept (t':=s1.toks) fun b o e=>Heap.get?_push_of_some _ e
 rw [hw]
 refine wpAny_bind (wpAny_pure ?_)
 show wpAny (model X.prog X.w) X.A (do rule "assign.swapped-stores";let items <- unpackItems (.ref s1.heap.objs.size) 2 none;assignInOrder [fun v=>bindName X.env y v,fun v=>bindName X.env x v] items.reverse;pure Flow.next) _ _ _
 refine wpAny_bind (wpAny_rule (wpAny_bind (unpackItems_tuple (items:=#[u1,u2]) (I.ok.hd hc) (IsTup.new s1.heap _) fun h' hx'=>?_)))
 have I3:=I2.kept (h':=h') (t':=s1.toks) fun b o e=>hx' b o (Nat.ne_of_lt (Heap.lt_size e)) e
 show wpAny _ _ (assignInOrder [fun v=>bindName X.env y v,fun v=>bindName X.env x v] [u2,u1] >>= fun _=>pure Flow.next) _ _ _
 refine wpAny_bind (assignInOrder_cons (wpAny_bindName (je I3 hN hj (.inl hy) rw' (fun s2 I4=>?_) (.inr hy))))
 refine assignInOrder_cons (wpAny_bindName (je I4 hN hi (.inl hx) rv (fun s3 I5=>assignInOrder_nil (wpAny_pure ?_)) (.inr hx)))
 rw [List.set_comm _ _ (Ne.symm hij)] at I5
 exact⟨_,H1,I5,q1⟩
end
section
variable {X:Cx}{pos:Pos}
def Ei (c:TT)(tb:TS):TS:=fun D σ H=>∃W:Nat->St->Hp->Prop,(∃m,W m σ H) /\ ∀m σ H,W m σ H ->
 c σ H fun b H1=>if b=true then ∃N:St->Hp->Prop,(∀σ' H',N σ' H'->∃m',m' < m/\W m' σ' H')/\tb { D with nx:=N,ct:=N,bk:=D.nx } σ H1 else D.nx σ H1
theorem yj {c:Expr}{body:List Stmt}{tc:TT}{tb:TS}(hp:PassesOwn (model X.prog X.w) X.A X.env X.xe)(hc:PT X c tc)(hb:fu X body tb):PS X (.While c body [] pos) (Ei tc tb):=by
 intro pins s σ H D I h
 obtain⟨W,⟨m0,w0⟩,turn⟩:=h
 refine wpAny_While (codeAny_whileLoop (fun n s'=>∃σ' H',Inv X pins σ' H' s'/\W n σ' H') ?_ m0 ⟨σ,H,I,w0⟩)
 rintro n s1 ⟨σ1,H1,I1,w1⟩
 refine wpAny_passesOwn hp (aU (hc pins s1 σ1 H1 _ I1 (turn n σ1 H1 w1)) fun b s2 ⟨H2,I2,q2⟩=>?_)
 cases b with
 | true =>
  obtain⟨N,hN,q2⟩:=q2
  rw [if_pos rfl]
  refine wpAny_passesOwn hp (aU (hb pins s2 σ1 H2 _ I2 q2) fun f s3 q3=>?_)
  cases f with
  | next =>
   obtain⟨σ3,H3,I3,n3⟩:=q3
   obtain⟨m',hm,w3⟩:=hN σ3 H3 n3
   exact⟨m',hm,σ3,H3,I3,w3⟩
  | cont =>
   obtain⟨σ3,H3,I3,n3⟩:=q3
   obtain⟨m',hm,w3⟩:=hN σ3 H3 n3
   exact⟨m',hm,σ3,H3,I3,w3⟩
  | brk=>exact q3
  | ret v=>exact q3
 | false =>
  rw [if_neg Bool.false_ne_true]
  exact wpAny_execs_nil ⟨σ1,H2,I2,q2⟩
end
structure It where
 go:Nat->Hp->Prop
 yld:Nat->Hp->V->Hp->Prop
 stop:Nat->Hp->Prop
def cM (X:Cx)(pins:List (Addr×Obj))(H:Hp)(b:Addr):Prop :=
 H b=none/\b≠X.env.locals/\b ∉ X.fs/\(b∈X.ex\/X.s₀.heap.objs.size<=b)/\(∀x c,X.env.cells.lookup x=some c->c≠b) /\ ∀p∈X.pn++pins,p.1≠b
theorem Inv.gv {X:Cx}{pins:List (Addr×Obj)}{σ:St}{H H':Hp}{s:Shared}{b:Addr}(I:Inv X pins σ H s)(hb:s.heap.objs.size<=b)(hn:H' b=none):cM X pins H' b:=by
 refine⟨hn,Nat.ne_of_gt (Nat.lt_of_lt_of_le I.lt hb),I.II hb,.inr (Nat.le_trans I.sz hb),fun x c e z=>?_,fun p hp z=>?_⟩
 . obtain⟨v,q⟩:=I.cell x c e
   exact absurd (Nat.lt_of_lt_of_le q.lt (by rw [z];exact hb)) (Nat.lt_irrefl _)
 . exact absurd (Nat.lt_of_lt_of_le (Heap.lt_size (I.pin p hp).1) (by rw [z];exact hb)) (Nat.lt_irrefl _)
structure Turn (P:Program)(w:World)(K:PySem.W.Frag)(tg:Expr)(J:It)(fp:List Addr)(it:Addr)(tn:Nat->Heap->Prop):Prop where
 mem:it∈fp
 obj:∀i h,tn i h->∀b∈fp,∃o,h.get? b=some o /\ ∀v,o.data ≠ .cell v
 keep:∀i h h',tn i h->(∀b∈fp,∀o,h.get? b=some o->h'.get? b=some o)->tn i h'
 item:∀(X:Cx),X.prog=P->X.w=w->X.K=K->X.calm=true->∀(i:Nat) (pins:List (Addr×Obj)) (s:Shared) (σ:St) (H:Hp) (E:Value->Shared->Prop),Inv X pins σ H s->(∀b∈fp,cM X pins H b)->tn i s.heap->J.go i H ->
  wpAny (model P w) X.A (pyNext (.ref it)) (fun r s1=>∃u,r=some u /\
   wpAny (model P w) X.A (letOwnedTupleGo tg (.ref it) u) (fun _ s2=>∃x H',Inv X pins σ H' s2/\RelV x u/\J.yld i H x H'/\tn (i+1) s2.heap /\ ∀b∈fp,H' b=none) E s1) E s
 done:∀(X:Cx),X.prog=P->X.w=w->X.K=K->X.calm=true->∀(i:Nat) (pins:List (Addr×Obj)) (s:Shared) (σ:St) (H:Hp) (E:Value->Shared->Prop),Inv X pins σ H s->(∀b∈fp,cM X pins H b)->tn i s.heap->J.stop i H ->
  wpAny (model P w) X.A (pyNext (.ref it)) (fun r s1=>r=none/\Inv X pins σ H s1) E s
 self:∀(A:Around) (i:Nat) (s:Shared) (Q:Value->Shared->Prop) (E:Value->Shared->Prop),tn i s.heap->Q (.ref it) s->wpAny (model P w) A (pyIter (.ref it)) Q E s
abbrev TI:=St->Hp->(It->Hp->Prop)->Prop
def HD (X:Cx)(pins:List (Addr×Obj))(σ:St)(tg:Expr)(R:It->Hp->Prop)(itv:Value)(s2:Shared):Prop :=
 ∃(it:Addr) (fp:List Addr) (tn:Nat->Heap->Prop) (J:It) (H':Hp),itv = .ref it/\Inv X pins σ H' s2/\Turn X.prog X.w X.K tg J fp it tn/\tn 0 s2.heap/\(∀b∈fp,cM X pins H' b)/\R J H'
def PI (X:Cx)(tg iter:Expr)(wi:TI):Prop :=
 ∀(pins:List (Addr×Obj)) (s:Shared) (σ:St) (H:Hp) (R:It->Hp->Prop),Inv X pins σ H s->wi σ H R ->
  wpAny (model X.prog X.w) X.A (eval iter X.env) (fun v s1=>wpAny (model X.prog X.w) X.A (pyIter v) (HD X pins σ tg R) X.xe s1) X.xe s
theorem oJ {M : Model} {A : Around} {E : Value -> Shared -> Prop} {s : Shared} {tg : Expr} {it : Addr} {u : Value} {o : Obj} {n : String} {vs : Array Value} {Q : Unit -> Shared -> Prop} (ho : s.heap.get? it = some o) (hc : o.cls = .type n) (hd : o.data = .fields vs)
   (hn : ["enumerate", "zip", "dict_itemiterator", "dict_reverseitemiterator", "odict_iterator", "itertools.zip_longest", "itertools.pairwise"].contains n = false) (hQ : Q () s) : wpAny M A (letOwnedTupleGo tg (.ref it) u) Q E s := by
 unfold letOwnedTupleGo
 cases tg <;> first
   | exact wpAny_pure hQ
   | (cases u <;> first
       | exact wpAny_pure hQ
       | (refine wpAny_bind (wpAny_load ho ?_)
          rw [hc, hd]
          show wpAny M A (if (["enumerate", "zip", "dict_itemiterator", "dict_reverseitemiterator", "odict_iterator", "itertools.zip_longest", "itertools.pairwise"].contains n && vs[0]? == some (rawInt _)) = true then _ else _) Q E s
          rw [if_neg (by intro h; rw [hn, Bool.false_and] at h; cases h)]
          exact wpAny_pure hQ))
def zd (K:PySem.W.Frag)(a:Addr):It :=
 ⟨fun i H=>∃xs x,cD K H a xs/\xs[i]? = some x,fun i H x H'=>H'=H /\ ∀xs,cD K H a xs->xs[i]? = some x,fun i H=>∃xs,cD K H a xs/\xs.length<=i⟩
def E4 (K:PySem.W.Frag)(a:Addr):It :=
 ⟨fun i H=>∃xs x,dh K H a xs/\xs[i]? = some x,fun i H x H'=>H'=H /\ ∀xs,dh K H a xs->xs[i]? = some x,fun i H=>∃xs,dh K H a xs/\xs.length<=i⟩
def wo (lo:Int)(n:Nat):It:=⟨fun i _=>i<n,fun i H x H'=>H'=H/\x = .int (lo+i),fun i _=>n<=i⟩
theorem u3 {P:Program}{w:World}{K:PySem.W.Frag}{tg:Expr}(a it:Addr):Turn P w K tg (zd K a) [it] it (fun i h=>h.IsListIter it a i) where
 mem:=by simp
 obj:=fun i h st b hb=>by
  have e:b=it:=by simpa using hb
  subst e
  obtain⟨o,e,c,d⟩:=st
  exact⟨o,e,fun v z=>by rw [d] at z;cases z⟩
 keep:=fun i h h' st k=>st.at fun o e=>k it (by simp) o e
 item:=by
  intro X hP hw hK hc i pins s σ H E I hf st hg
  subst hP hw hK
  obtain⟨xs,x,hq,hx⟩:=hg
  obtain⟨its,rv,p,hz⟩:=I.list hq
  obtain⟨u,hu,ru⟩:=rv.get hx
  obtain⟨f0,f1,f2,f3,f4,f5⟩:=hf it (by simp)
  refine wpAny_pyNext_list_item st p.isList (x:=u) (by simpa using hu) fun h' st' sb=>?_
  have I1:Inv X pins σ H { s with heap:=h' }:=I.turned (t':=s.toks) (fun b o hb e=>(sb.2 b hb).trans e) f0 f1 f3 f4 f5
  obtain⟨o,e,c,d⟩:=id st'
  exact⟨u,rfl,oJ (s:={ s with heap:=h' }) e c d (by decide) ⟨x,H,I1,ru,⟨rfl,fun ys hy=>by rw [I.lq hy hq];exact hx⟩,st',fun b hb=>(hf b hb).1⟩⟩
 done:=by
  intro X hP hw hK hc i pins s σ H E I hf st hg
  subst hP hw hK
  obtain⟨xs,hq,hx⟩:=hg
  obtain⟨its,rv,p,hz⟩:=I.list hq
  obtain⟨f0,f1,f2,f3,f4,f5⟩:=hf it (by simp)
  have hl:=rv.length
  exact wpAny_pyNext_list_end (I.ok.hd hc) st p.isList (by simp;omega) fun h' eb=>⟨rfl,I.turned (t':=s.toks) (fun b o hb e=>eb b o hb e) f0 f1 f3 f4 f5⟩
 self:=fun _ _ _ _ _ st h=>wpAny_pyIter_listiter st h
theorem tJ {P:Program}{w:World}{K:PySem.W.Frag}{tg:Expr}(a it:Addr):Turn P w K tg (E4 K a) [it] it (fun i h=>h.IsTupleIter it a i) where
 mem:=by simp
 obj:=fun i h st b hb=>by
  have e:b=it:=by simpa using hb
  subst e
  obtain⟨o,e,c,d⟩:=st
  exact⟨o,e,fun v z=>by rw [d] at z;cases z⟩
 keep:=fun i h h' st k=>st.at fun o e=>k it (by simp) o e
 item:=by
  intro X hP hw hK hc i pins s σ H E I hf st hg
  subst hP hw hK
  obtain⟨xs,x,hq,hx⟩:=hg
  obtain⟨its,rv,p,hz⟩:=I.tuple hq
  obtain⟨u,hu,ru⟩:=rv.get hx
  obtain⟨f0,f1,f2,f3,f4,f5⟩:=hf it (by simp)
  refine wpAny_pyNext_tuple_item st (show s.heap.IsTuple a its.toArray from p) (x:=u) (by simpa using hu) fun h' st' sb=>?_
  have I1:Inv X pins σ H { s with heap:=h' }:=I.turned (t':=s.toks) (fun b o hb e=>(sb.2 b hb).trans e) f0 f1 f3 f4 f5
  obtain⟨o,e,c,d⟩:=id st'
  exact⟨u,rfl,oJ (s:={ s with heap:=h' }) e c d (by decide) ⟨x,H,I1,ru,⟨rfl,fun ys hy=>by rw [I.jS hy hq];exact hx⟩,st',fun b hb=>(hf b hb).1⟩⟩
 done:=by
  intro X hP hw hK hc i pins s σ H E I hf st hg
  subst hP hw hK
  obtain⟨xs,hq,hx⟩:=hg
  obtain⟨its,rv,p,hz⟩:=I.tuple hq
  obtain⟨f0,f1,f2,f3,f4,f5⟩:=hf it (by simp)
  have hl:=rv.length
  exact wpAny_pyNext_tuple_end (I.ok.hd hc) st (show s.heap.IsTuple a its.toArray from p) (by simp;omega) fun h' eb=>⟨rfl,I.turned (t':=s.toks) (fun b o hb e=>eb b o hb e) f0 f1 f3 f4 f5⟩
 self:=fun _ _ _ _ _ st h=>wpAny_pyIter_tupleiter st h
theorem ux {P:Program}{w:World}{K:PySem.W.Frag}{tg:Expr}(it:Addr)(lo:Int)(n:Nat):Turn P w K tg (wo lo n) [it] it (fun i h=>IsRangeIter h it (lo+(i:Nat)*1) ((n:Int)-(i:Nat)) 1) where
 mem:=by simp
 obj:=fun i h st b hb=>by
  have e:b=it:=by simpa using hb
  subst e
  exact⟨_,st,fun v z=>by
   have z':Data.fields _=Data.cell v:=z
   cases z'⟩
 keep:=fun i h h' st k=>k it (by simp) _ st
 item:=by
  intro X hP hw hK hc i pins s σ H E I hf st hg
  subst hP hw hK
  obtain⟨f0,f1,f2,f3,f4,f5⟩:=hf it (by simp)
  have W:=Walks.range (prog:=X.prog) (w:=X.w) (I.ok.hd hc) it lo 1 n
  refine W.item i s _ _ hg st fun v h' tk hv st' kk=>?_
  obtain⟨t,rfl⟩:=hv
  have I1:Inv X pins σ H { s with heap:=h',toks:=tk }:=I.turned (fun b o hb e=>kk b o (by simpa using hb) e) f0 f1 f3 f4 f5
  refine⟨_,rfl,oJ (s:={ s with heap:=h',toks:=tk }) (n:="range_iterator") st' rfl rfl (by decide) ⟨.int (lo+i),H,I1,⟨t,?_⟩,⟨rfl,rfl⟩,st',fun b hb=>(hf b hb).1⟩⟩
  rw [Int.mul_one]
 done:=by
  intro X hP hw hK hc i pins s σ H E I hf st hg
  subst hP hw hK
  obtain⟨f0,f1,f2,f3,f4,f5⟩:=hf it (by simp)
  exact wpAny_pyNext_range_end (I.ok.hd hc) st (by have:n<=i:=hg;omega) fun h' eb=>⟨rfl,I.turned (t':=s.toks) (fun b o hb e=>eb b o hb e) f0 f1 f3 f4 f5⟩
 self:=fun _ _ _ _ _ st h=>wpAny_pyIter_rangeiter st h
section
variable {X:Cx}{tg:Expr}
def Fv (K:PySem.W.Frag)(tl:TE):TI:=fun σ H R=>tl σ H fun x H1=>∃a,x = .ref a/\(∃xs,cD K H1 a xs)/\R (zd K a) H1
def JF (K:PySem.W.Frag)(tl:TE):TI:=fun σ H R=>tl σ H fun x H1=>∃a,x = .ref a/\(∃xs,dh K H1 a xs)/\R (E4 K a) H1
theorem sd {l:Expr}{tl:TE}(hl:PE X l tl):PI X tg l (Fv X.K tl):=by
 intro pins s σ H R I h
 refine aU (hl pins s σ H _ I h) fun v s1 ⟨x,H1,I1,r1,q1⟩=>?_
 obtain⟨a,e,⟨xs,hq⟩,q⟩:=q1
 subst e
 cases r1
 obtain⟨its,rv,p,hz⟩:=I1.list hq
 refine wpAny_pyIter_list p.isList ?_
 refine⟨s1.heap.objs.size,[s1.heap.objs.size],_,_,H1,rfl,I1.kept (t':=s1.toks) fun b o e=>Heap.get?_push_of_some _ e,u3 a _,⟨_,Heap.get?_push_size _ rfl,rfl,rfl⟩,fun b hb=>?_,q⟩
 have e:b=s1.heap.objs.size:=by simpa using hb
 subst e
 exact I1.gv (Nat.le_refl _) (I1.hok.fresh (Nat.le_refl _))
theorem EK {l:Expr}{tl:TE}(hl:PE X l tl):PI X tg l (JF X.K tl):=by
 intro pins s σ H R I h
 refine aU (hl pins s σ H _ I h) fun v s1 ⟨x,H1,I1,r1,q1⟩=>?_
 obtain⟨a,e,⟨xs,hq⟩,q⟩:=q1
 subst e
 cases r1
 obtain⟨its,rv,p,hz⟩:=I1.tuple hq
 refine wpAny_pyIter_tuple (show s1.heap.IsTuple a its.toArray from p) ?_
 refine⟨s1.heap.objs.size,[s1.heap.objs.size],_,_,H1,rfl,I1.kept (t':=s1.toks) fun b o e=>Heap.get?_push_of_some _ e,tJ a _,⟨_,Heap.get?_push_size _ rfl,rfl,rfl⟩,fun b hb=>?_,q⟩
 have e:b=s1.heap.objs.size:=by simpa using hb
 subst e
 exact I1.gv (Nat.le_refl _) (I1.hok.fresh (Nat.le_refl _))
theorem oU {pins:List (Addr×Obj)}{σ:St}{H:Hp}{s:Shared}{R:It->Hp->Prop}{E:Value->Shared->Prop}{lo hi:Int}{t u v:Tok}{tk:Nat}(I:Inv X pins σ H s)(h1:-(2 ^ 62)<=lo)(h2:lo<2 ^ 62)(h3:-(2 ^ 62)<=hi)(h4:hi<2 ^ 62)
   (q:R (wo lo (hi-lo).toNat) H):wpAny (model X.prog X.w) X.A (pyIter (.ref s.heap.objs.size)) (HD X pins σ tg R) E { s with heap:=s.heap.push { cls:=.type "range",data:=.fields #[.int lo t,.int hi u,.int 1 v] },toks:=tk }:=by
 refine wpAny_pyIter_range (IsRange.new ..) (small_one h1 h2 h3 h4) ?_
 have I1:Inv X pins σ H { s with heap:=s.heap.push { cls:=.type "range",data:=.fields #[.int lo t,.int hi u,.int 1 v] },toks:=tk }:=I.kept fun b o e=>Heap.get?_push_of_some _ e
 refine⟨(s.heap.push { cls:=.type "range",data:=.fields #[.int lo t,.int hi u,.int 1 v] }).objs.size,[(s.heap.push { cls:=.type "range",data:=.fields #[.int lo t,.int hi u,.int 1 v] }).objs.size],_,_,H,rfl,
   I1.kept (t':=tk) fun b o e=>Heap.get?_push_of_some _ e,ux _ lo (hi-lo).toNat,?_,fun b hb=>?_,q⟩
 . have e1:lo+((0:Nat):Int)*1=lo:=by simp
   have e2:(((hi-lo).toNat:Nat):Int)-((0:Nat):Int)=Builtin.Range.rangeSize lo hi 1:=by rw [rangeSize_one];split<;>omega
   show IsRangeIter _ _ (lo+((0:Nat):Int)*1) ((((hi-lo).toNat:Nat):Int)-((0:Nat):Int)) 1
   rw [e1,e2]
   exact Heap.get?_push_size _ rfl
 . have e:b=(s.heap.push { cls:=.type "range",data:=.fields #[.int lo t,.int hi u,.int 1 v] }).objs.size:=by simpa using hb
   subst e
   exact I1.gv (Nat.le_refl _) (I1.hok.fresh (Nat.le_refl _))
def Gj (ta:TA):TI:=fun σ H R=>ta σ H fun vs H1=>∃j:Int,vs = [.int j] /\ -(2 ^ 62)<=j/\j<2 ^ 62/\R (wo 0 j.toNat) H1
def F8 (ta:TA):TI:=fun σ H R=>ta σ H fun vs H1=>∃i j:Int,vs = [.int i,.int j]/\(-(2 ^ 62)<=i/\i<2 ^ 62 /\ -(2 ^ 62)<=j/\j<2 ^ 62)/\R (wo i (j-i).toNat) H1
theorem wJ {a:Expr}{ta:TA}{p pos:Pos}(hg:Gl X "range")(hm:X.mg "range" = none)(ha:PA X [a] ta)(hs:starEach [a] X.env = [(false,eval a X.env)]:=by rfl):PI X tg (.Call (.Name "range" p) [a] [] pos) (Gj ta):=by
 intro pins s σ H R I h
 refine Call_ (eY I hg hm boot_range (PyProof.Rows.callWith_type1 (aU (ha pos pins s σ H _ I h) fun us s1 ⟨vs,H1,I1,r1,q1⟩=>?_) hs rfl))
 obtain⟨j,e,q1,q2,q⟩:=q1
 subst e
 cases r1 with
 | cons r rr =>
  cases rr
  obtain⟨t,rfl⟩:=r
  exact call_range_1 (oU I1 (by omega) (by omega) q1 q2 (by simpa using q))
theorem vP {a b:Expr}{ta:TA}{p pos:Pos}(hg:Gl X "range")(hm:X.mg "range" = none)(ha:PA X [a,b] ta)(hs:starEach [a,b] X.env = [(false,eval a X.env),(false,eval b X.env)]:=by rfl)(hs2:starEach [b] X.env = [(false,eval b X.env)]:=by rfl) :
  PI X tg (.Call (.Name "range" p) [a,b] [] pos) (F8 ta):=by
 intro pins s σ H R I h
 refine Call_ (eY I hg hm boot_range (PyProof.Rows.callWith_type1 (aU (ha pos pins s σ H _ I h) fun us s1 ⟨vs,H1,I1,r1,q1⟩=>?_) (by rw [hs,hs2]) (by rw [hs2];rfl)))
 obtain⟨i,j,e,⟨q1,q2,q3,q4⟩,q⟩:=q1
 subst e
 cases r1 with
 | cons r rr =>
  cases rr with
  | cons r' rr =>
   cases rr
   obtain⟨t,rfl⟩:=r
   obtain⟨t',rfl⟩:=r'
   exact call_range_2 (oU I1 q1 q2 q3 q4 q)
def JH (wi:TI)(g:TG)(tb:TS):TS:=fun D σ H=>wi σ H fun J H1=>∃W:Nat->Nat->St->Hp->Prop,(∃m,W 0 m σ H1) /\ ∀i m σ H,W i m σ H ->
 (J.stop i H/\D.nx σ H)\/(J.go i H /\ ∃N:St->Hp->Prop,(∀σ' H',N σ' H'->∃m',m' < m/\W (i+1) m' σ' H') /\ ∀x H',J.yld i H x H'->g x σ H' fun σ2 H2=>tb { D with nx:=N,ct:=N,bk:=D.nx } σ2 H2)
def hG (fp:List Addr)(h:Heap):List (Addr×Obj):=fp.filterMap fun b=>(h.get? b).map fun o=>(b,o)
theorem cZ {fp:List Addr}{h:Heap}{b:Addr}{o:Obj}(hb:b∈fp)(e:h.get? b=some o):(b,o)∈hG fp h:=List.mem_filterMap.mpr ⟨b,hb,by rw [e];rfl⟩
theorem vF {fp:List Addr}{h:Heap}{p:Addr×Obj}(hp:p∈hG fp h):p.1∈fp/\h.get? p.1=some p.2:=by
 obtain⟨b,hb,e⟩:=List.mem_filterMap.mp hp
 cases q:h.get? b with
 | none=>rw [q] at e;cases e
 | some o =>
  rw [q] at e
  have e':(b,o)=p:=Option.some.inj e
  subst e'
  exact⟨hb,q⟩
theorem Inv.pinned {pins:List (Addr×Obj)}{σ:St}{H:Hp}{s:Shared}{fp:List Addr}(I:Inv X pins σ H s)(hf:∀b∈fp,cM X pins H b)(ho:∀b∈fp,∃o,s.heap.get? b=some o /\ ∀v,o.data ≠ .cell v):Inv X (pins++hG fp s.heap) σ H s :=
 I.sN fun p hp=>(List.mem_append.mp hp).elim (fun z=>I.pin p (List.mem_append_right _ z)) fun z=>by
  obtain⟨hb,e⟩:=vF z
  obtain⟨f0,f1,f2,_⟩:=hf p.1 hb
  obtain⟨o,e',d⟩:=ho p.1 hb
  rw [e] at e';cases e'
  exact⟨e,f0,f1,f2,d⟩
theorem Inv.fR {pins pl:List (Addr×Obj)}{σ:St}{H:Hp}{s:Shared}(I:Inv X (pins++pl) σ H s):Inv X pins σ H s:=I.sN fun p hp=>I.pin p (List.mem_append_right _ (List.mem_append_left _ hp))
theorem BP {iter:Expr}{body:List Stmt}{wi:TI}{g:TG}{tb:TS}{pos:Pos}(hp:PassesOwn (model X.prog X.w) X.A X.env X.xe)(hc:X.calm=true)(hi:PI X tg iter wi)(hg:PG X tg g)(hb:fu X body tb)
   (hs:∀x,foldedSetIterable iter X.env x=pure x:=by intro _;rfl):PS X (.For tg iter body [] pos) (JH wi g tb):=by
 intro pins s σ H D I h
 refine wpAny_For (aU (hi pins s σ H _ I h) fun v s1 h1=>aU h1 fun itv s2 h2=>?_) hs
 obtain⟨it,fp,tn,J,H2,e,I2,T,st2,f2,W,⟨m0,w0⟩,turn⟩:=h2
 subst e
 have stat:∀{H':Hp},(∀b∈fp,H' b=none)->∀b∈fp,cM X pins H' b:=fun hn b hb=>⟨hn b hb,(f2 b hb).2⟩
 refine codeAny_forLoop_any (fun n s'=>∃i σ' H',Inv X pins σ' H' s'/\tn i s'.heap/\(∀b∈fp,H' b=none)/\W i n σ' H') ?_ m0 ⟨0,σ,H2,I2,st2,fun b hb=>(f2 b hb).1,w0⟩
 rintro n s3 ⟨i,σ3,H3,I3,st3,fr3,w3⟩
 rcases turn i n σ3 H3 w3 with⟨stop,qn⟩ | ⟨go,N,hN,step⟩
 . refine wpAny_passesOwn hp (aU (T.done X rfl rfl rfl hc i pins s3 σ3 H3 X.xe I3 (stat fr3) st3 stop) fun r s4 ⟨hr,I4⟩=>?_)
   subst hr
   exact wpAny_execs_nil ⟨σ3,H3,I4,qn⟩
 . refine wpAny_passesOwn hp (aU (T.item X rfl rfl rfl hc i pins s3 σ3 H3 X.xe I3 (stat fr3) st3 go) fun r s4 ⟨u,hr,h4⟩=>?_)
   subst hr
   refine wpAny_passesOwn hp (aU h4 fun _ s5 ⟨x,H5,I5,r5,y5,st5,fr5⟩=>?_)
   have I5':=I5.pinned (stat fr5) (T.obj _ _ st5)
   refine wpAny_passesOwn hp (aU (hg _ s5 σ3 H5 x u _ I5' r5 (step x H5 y5)) fun _ s6 ⟨σ6,H6,I6,q6⟩=>?_)
   refine wpAny_passesOwn hp (aU (hb _ s6 σ6 H6 _ I6 q6) fun f s7 q7=>?_)
   have again:∀{σ7:St} {H7:Hp},Inv X (pins++hG fp s5.heap) σ7 H7 s7->N σ7 H7->∃m,m<n /\ ∃i σ' H',Inv X pins σ' H' s7/\tn i s7.heap/\(∀b∈fp,H' b=none)/\W i m σ' H':=fun {σ7 H7} I7 n7=>by
    obtain⟨m',hm,w7⟩:=hN σ7 H7 n7
    refine⟨m',hm,i+1,σ7,H7,I7.fR,T.keep _ _ _ st5 fun b hb o e=>(I7.pin (b,o) (List.mem_append_right _ (List.mem_append_right _ (cZ hb e)))).1,fun b hb=>?_,w7⟩
    obtain⟨o,e,d⟩:=T.obj _ _ st5 b hb
    exact(I7.pin (b,o) (List.mem_append_right _ (List.mem_append_right _ (cZ hb e)))).2.1
   cases f with
   | next=>obtain⟨σ7,H7,I7,n7⟩:=q7;exact again I7 n7
   | cont=>obtain⟨σ7,H7,I7,n7⟩:=q7;exact again I7 n7
   | brk=>obtain⟨σ7,H7,I7,q7⟩:=q7;exact⟨σ7,H7,I7.fR,q7⟩
   | ret v=>obtain⟨x7,σ7,H7,I7,r7,q7⟩:=q7;exact⟨x7,σ7,H7,I7.fR,r7,q7⟩
end
abbrev R2:=V->V->Hp->VK->Prop
def bw (X:Cx)(f:Value->Value->Sem Value)(r:R2):Prop :=
 ∀(pins:List (Addr×Obj)) (s:Shared) (σ:St) (H:Hp) (x y:V) (v u:Value) (Q:VK),Inv X pins σ H s->RelV x v->RelV y u->r x y H Q ->
  wpAny (model X.prog X.w) X.A (f v u) (EP X pins σ Q) X.xe s
def vB (X:Cx)(f:Value->Sem Value)(r:V->Hp->VK->Prop):Prop :=
 ∀(pins:List (Addr×Obj)) (s:Shared) (σ:St) (H:Hp) (x:V) (v:Value) (Q:VK),Inv X pins σ H s->RelV x v->r x H Q ->
  wpAny (model X.prog X.w) X.A (f v) (EP X pins σ Q) X.xe s
def b7 (X:Cx)(f:Value)(r:List V->Hp->VK->Prop):Prop :=
 ∀(pins:List (Addr×Obj)) (s:Shared) (σ:St) (H:Hp) (xs:List V) (us:List Value) (Q:VK),Inv X pins σ H s->Vals xs us->r xs H Q ->
  wpAny (model X.prog X.w) X.A (call f us) (EP X pins σ Q) X.xe s
def JE (X:Cx)(r:V->Hp->(Bool->Hp->Prop)->Prop):Prop :=
 ∀(pins:List (Addr×Obj)) (s:Shared) (σ:St) (H:Hp) (x:V) (v:Value) (Q:Bool->Hp->Prop),Inv X pins σ H s->RelV x v->r x H Q ->
  wpAny (model X.prog X.w) X.A (truthy v) (TP X pins σ Q) X.xe s
def wc (r:R2)(ta tb:TE):TE:=fun σ H Q=>ta σ H fun x H1=>tb σ H1 fun y H2=>r x y H2 Q
def Lj (r:V->Hp->VK->Prop)(ta:TE):TE:=fun σ H Q=>ta σ H fun x H1=>r x H1 Q
def rI (C:Int->Int->Prop)(g:Int->Int->V):R2:=fun x y H Q=>∃i j,x = .int i/\y = .int j/\C i j/\Q (g i j) H
def jv (g:Int->Int->V):R2:=fun x y H Q=>∃i j,x = .int i/\y = .int j/\Q (g i j) H
def rU (g:Int->V):V->Hp->VK->Prop:=fun x H Q=>∃i,x = .int i/\Q (g i) H
section
variable {X:Cx}{a b c:Expr}{ta tb tc:TE}{pos:Pos}
theorem x_ (ha:PE X a ta)(hb:PE X b tb){pins:List (Addr×Obj)}{s:Shared}{σ:St}{H:Hp}{R:V->V->Hp->Prop}(I:Inv X pins σ H s)
  (h:ta σ H fun x H1=>tb σ H1 fun y H2=>R x y H2) {Q:Value->Shared->Prop} {f:Value->Value->Sem Value}
  (hf:∀v u s2 x y H2,Inv X pins σ H2 s2->RelV x v->RelV y u->R x y H2->wpAny (model X.prog X.w) X.A (f v u) Q X.xe s2) :
  wpAny (model X.prog X.w) X.A (eval a X.env) (fun v s₁=>wpAny (model X.prog X.w) X.A (eval b X.env) (fun u s₂=>wpAny (model X.prog X.w) X.A (f v u) Q X.xe s₂) X.xe s₁) X.xe s:=by
 refine aU (ha pins s σ H _ I h) fun v s1 ⟨x,H1,I1,r1,q1⟩=>?_
 refine aU (hb pins s1 σ H1 _ I1 q1) fun u s2 ⟨y,H2,I2,r2,q2⟩=>?_
 exact hf v u s2 x y H2 I2 r1 r2 q2
theorem Fu {op:Operator}{r:R2}(ho:bw X (binaryOp op) r)(ha:PE X a ta)(hb:PE X b tb):PE X (.BinOp a op b pos) (wc r ta tb):=by
 intro pins s σ H Q I h
 exact wpAny_BinOp (x_ ha hb I h fun v u s2 x y H2 I2 rx ry q=>ho pins s2 σ H2 x y v u Q I2 rx ry q)
theorem Fs {op:UnaryOp}{r:V->Hp->VK->Prop}(ho:vB X (unaryOp op) r)(ha:PE X a ta):PE X (.UnaryOp op a pos) (Lj r ta):=by
 intro pins s σ H Q I h
 exact UnaryOp_ (aU (ha pins s σ H _ I h) fun v s1 ⟨x,H1,I1,r1,q1⟩=>ho pins s1 σ H1 x v Q I1 r1 q1)
theorem wO {f:Value->Value->Sem Value}{C:Int->Int->Prop}{g:Int->Int->Int}
  (rule:∀(i j:Int) (t u:Tok) (s:Shared) (Q:Value->Shared->Prop) (E:Value->Shared->Prop),C i j->Q (.int (g i j) s.toks) { s with toks:=s.toks+1 }->wpAny (model X.prog X.w) X.A (f (.int i t) (.int j u)) Q E s) :
  bw X f (rI C fun i j=>.int (g i j)):=by
 intro pins s σ H x y v u Q I rx ry h
 obtain⟨i,j,rfl,rfl,hc,q⟩:=h
 obtain⟨t,rfl⟩:=rx
 obtain⟨t',rfl⟩:=ry
 exact rule i j t t' s _ _ hc ⟨.int (g i j),H,I.tok _,⟨_,rfl⟩,q⟩
theorem uF {f:Value->Value->Sem Value}{g:Int->Int->Int}
  (rule:∀(i j:Int) (t u:Tok) (s:Shared) (Q:Value->Shared->Prop) (E:Value->Shared->Prop),Q (.int (g i j) s.toks) { s with toks:=s.toks+1 }->wpAny (model X.prog X.w) X.A (f (.int i t) (.int j u)) Q E s) :
  bw X f (jv fun i j=>.int (g i j)):=by
 intro pins s σ H x y v u Q I rx ry h
 obtain⟨i,j,rfl,rfl,q⟩:=h
 obtain⟨t,rfl⟩:=rx
 obtain⟨t',rfl⟩:=ry
 exact rule i j t t' s _ _ ⟨.int (g i j),H,I.tok _,⟨_,rfl⟩,q⟩
theorem tS {f:Value->Value->Sem Value}{g:Int->Int->Bool}
  (rule:∀(i j:Int) (t u:Tok) (s:Shared) (Q:Value->Shared->Prop) (E:Value->Shared->Prop),Q (.bool (g i j)) s->wpAny (model X.prog X.w) X.A (f (.int i t) (.int j u)) Q E s) :
  bw X f (jv fun i j=>.bl (g i j)):=by
 intro pins s σ H x y v u Q I rx ry h
 obtain⟨i,j,rfl,rfl,q⟩:=h
 obtain⟨t,rfl⟩:=rx
 obtain⟨t',rfl⟩:=ry
 exact rule i j t t' s _ _ ⟨.bl (g i j),H,I,rfl,q⟩
def JK (i j:Int):Prop:=0<j/\j<1073741824
def CI (i j:Int):Prop:=0<=j/\j<=1000000/\i.natAbs<2 ^ 64
def yB (i j:Int):Prop:=(-(2 ^ 64)<i/\i<2 ^ 64)\/(-(2 ^ 64)<j/\j<2 ^ 64)
theorem yB.ok {i j:Int}(h:yB i j):IntMulOk i j:=by
 rcases h with⟨h1,h2⟩ | ⟨h1,h2⟩
 . exact .of_left (intBits_le_64 h1 h2)
 . exact .of_right (intBits_le_64 h1 h2)
theorem EN:bw X (binaryOp .Add) (jv fun i j=>.int (i+j)):=uF fun _ _ _ _ _ _ _ q=>add_int q
theorem Cm:bw X (binaryOp .Sub) (jv fun i j=>.int (i-j)):=uF fun _ _ _ _ _ _ _ q=>sub_int q
theorem BK:bw X (binaryOp .Mult) (rI yB fun i j=>.int (i*j)):=wO fun _ _ _ _ _ _ _ hc q=>mul_int q hc.ok
theorem A4:bw X (binaryOp .FloorDiv) (rI JK fun i j=>.int (i / j)):=wO fun i j _ _ _ _ _ hc q=>by
 have h1:(0:Int)<j:=hc.1
 have h2:j<1073741824:=hc.2
 exact floordiv_int (by omega) (by rw [Int.fdiv_eq_ediv_of_nonneg i (by omega)];exact q) (.inl (PyProof.noPylong_small (by omega)))
theorem Cr:bw X (binaryOp .Mod) (rI (fun _ j=>0<j) fun i j=>.int (i % j)):=wO fun i j _ _ _ _ _ hc q=>by
 have h1:(0:Int)<j:=hc
 exact mod_int' (by omega) (by rw [Int.fmod_eq_emod_of_nonneg i (by omega)];exact q)
theorem EW:bw X (binaryOp .Pow) (rI CI fun i j=>.int (i ^ j.toNat)):=wO fun _ _ _ _ _ _ _ hc q=>pow_int_small hc.1 hc.2.1 hc.2.2 q
theorem Cf:bw X (binaryOp .LShift) (rI CI fun i j=>.int (i*2 ^ j.toNat)):=wO fun _ _ _ _ _ _ _ hc q=>lshift_int_small hc.1 hc.2.1 hc.2.2 q
theorem Cj:bw X (binaryOp .BitAnd) (jv fun i j=>.int (Builtin.bitAnd i j)):=uF fun _ _ _ _ _ _ _ q=>and_int q
theorem F_:bw X (binaryOp .BitOr) (jv fun i j=>.int (Builtin.bitOr i j)):=uF fun _ _ _ _ _ _ _ q=>or_int q
theorem Le {f:Value->Sem Value}{g:Int->Int}
  (rule:∀(i:Int) (t:Tok) (s:Shared) (Q:Value->Shared->Prop) (E:Value->Shared->Prop),Q (.int (g i) s.toks) { s with toks:=s.toks+1 }->wpAny (model X.prog X.w) X.A (f (.int i t)) Q E s) :
  vB X f (rU fun i=>.int (g i)):=by
 intro pins s σ H x v Q I rx h
 obtain⟨i,rfl,q⟩:=h
 obtain⟨t,rfl⟩:=rx
 exact rule i t s _ _ ⟨.int (g i),H,I.tok _,⟨_,rfl⟩,q⟩
theorem DV:vB X (unaryOp .USub) (rU fun i=>.int (-i)):=Le fun _ _ _ _ _ q=>neg_int q
end
section
variable {X:Cx}{a b c:Expr}{ta tb tc:TE}{pos:Pos}
theorem vg {pins:List (Addr×Obj)}{σ:St}{H:Hp}{s:Shared}{Q:VK}{k k':Bool}(I:Inv X pins σ H s)(q:Q (.bl k) H)(e:k=k'):EP X pins σ Q (.bool k') s:=by
 subst e
 exact⟨.bl k,H,I,rfl,q⟩
theorem Gn:bw X (compareOp .Lt) (jv fun i j=>.bl (decide (i<j))):=tS fun _ _ _ _ _ _ _ q=>lt_int q
theorem Gs:bw X (compareOp .LtE) (jv fun i j=>.bl (decide (i<=j))):=tS fun _ _ _ _ _ _ _ q=>le_int q
theorem FF:bw X (compareOp .Gt) (jv fun i j=>.bl (decide (j<i))):=tS fun _ _ _ _ _ _ _ q=>gt_int q
theorem Gb:bw X (compareOp .GtE) (jv fun i j=>.bl (decide (j<=i))):=tS fun _ _ _ _ _ _ _ q=>ge_int q
theorem Cv:bw X (compareOp .Is) (fun x y H Q=>y = .non/\Q (.bl (decide (x = .non))) H):=by
 intro pins s σ H x y v u Q I rx ry h
 obtain⟨rfl,q⟩:=h
 cases ry
 refine is_none_gen (vg I q ?_)
 cases x<;>first
  | (cases rx;rfl)
  | (obtain⟨t,rfl⟩:=rx;rfl)
theorem Bg:bw X (compareOp .IsNot) (fun x y H Q=>y = .non/\Q (.bl (!decide (x = .non))) H):=by
 intro pins s σ H x y v u Q I rx ry h
 obtain⟨rfl,q⟩:=h
 cases ry
 refine isnot_none_gen (vg I q ?_)
 cases x<;>first
  | (cases rx;rfl)
  | (obtain⟨t,rfl⟩:=rx;rfl)
theorem AD {op:CmpOp}{r:R2}(ho:bw X (compareOp op) r)(ha:PE X a ta)(hb:PE X b tb)(hm:behindInMarks op b=false):PE X (.Compare a [op] [b] pos) (wc r ta tb):=by
 intro pins s σ H Q I h
 exact wpAny_Compare1 (x_ ha hb I h fun v u s2 x y H2 I2 rx ry q=>ho pins s2 σ H2 x y v u Q I2 rx ry q) hm
def oI (t:TE):TT:=fun σ H Q=>t σ H fun x H'=>∃k,x = .bl k/\Q k H'
theorem Bk {op:CmpOp}{r:R2}(ho:bw X (compareOp op) r)(ha:PE X a ta)(hb:PE X b tb)(hm:behindInMarks op b=false):PT X (.Compare a [op] [b] pos) (oI (wc r ta tb)):=by
 intro pins s σ H Q I h
 refine wpAny_isTrue_Compare1 (aU (ha pins s σ H _ I h) fun v s1 ⟨x,H1,I1,r1,q1⟩=>aU (hb pins s1 σ H1 _ I1 q1) fun u s2 ⟨y,H2,I2,r2,q2⟩ =>
  aU (ho pins s2 σ H2 x y v u _ I2 r1 r2 q2) fun c s3 ⟨z,H3,I3,r3,k,e,q3⟩=>?_) hm
 subst e
 cases r3
 exact wpAny_truthy_bool ⟨H3,I3,q3⟩
def yt (K:PySem.W.Frag)(x:V)(H:Hp)(k:Bool):Prop :=
 match x with
 | .non=>k=false
 | .bl b=>k=b
 | .int i=>k=(i != 0)
 | .str y=>y.length<=sizeLine/\k=((y.length:Int) != 0)
 | .byt y=>y.size<=sizeLine/\k=((y.size:Int) != 0)
 | .ref p=>(∃xs,cD K H p xs/\k = !xs.isEmpty)\/(∃xs,dh K H p xs/\k = !xs.isEmpty) \/ ∃kvs,H p=some (.dK kvs)/\k = !kvs.isEmpty
 | _=>False
theorem tH {κ:Type}{kvs:List (κ×V)}{vs:List (κ×Value)}(r:KV kvs vs):(!vs.isEmpty) = !kvs.isEmpty:=by
 cases r<;>rfl
theorem lW {xs:List V}{its:List Value}(r:Vals xs its):(!its.toArray.isEmpty) = !xs.isEmpty:=by
 cases r<;>simp
theorem iG:(sizeLine:Nat)<2 ^ 63:=by rw [sizeLine_eq];decide
theorem Dt:JE X (fun x H Q=>∃k,yt X.K x H k/\Q k H):=by
 intro pins s σ H x v Q I rx h
 obtain⟨k,e,q⟩:=h
 have hl:=iG
 have hs:sizeLine=16777216:=sizeLine_eq
 cases x with
 | non =>
  cases rx
  have e':k=false:=e
  subst e'
  exact truthy_none ⟨H,I,q⟩
 | bl b =>
  cases rx
  have e':k=b:=e
  subst e'
  exact wpAny_truthy_bool ⟨H,I,q⟩
 | int i =>
  obtain⟨t,rfl⟩:=rx
  have e':k=(i != 0):=e
  subst e'
  exact PySem.P.truthy_int ⟨H,I,q⟩
 | str y =>
  obtain⟨t,rfl⟩:=rx
  obtain⟨hy,e'⟩:y.length<=sizeLine/\k=((y.length:Int) != 0):=e
  subst e'
  exact PySem.P.truthy_str (by omega) ⟨H,I.tok _,q⟩
 | byt y =>
  obtain⟨t,rfl⟩:=rx
  obtain⟨hy,e'⟩:y.size<=sizeLine/\k=((y.size:Int) != 0):=e
  subst e'
  exact PySem.W.truthy_bytes (by omega) ⟨H,I.tok _,q⟩
 | ref p =>
  cases rx
  have e':(∃xs,cD X.K H p xs/\k = !xs.isEmpty)\/(∃xs,dh X.K H p xs/\k = !xs.isEmpty) \/ ∃kvs,H p=some (.dK kvs)/\k = !kvs.isEmpty:=e
  rcases e' with⟨xs,hx,e'⟩ | ⟨xs,hx,e'⟩ | ⟨kvs,hx,e'⟩
  . subst e'
    obtain⟨its,r,pl,hz⟩:=I.list hx
    have hlen:=r.length
    exact wpAny_truthy_list pl.isList (by simp only [List.size_toArray];omega) ⟨H,I.tok _,by rw [lW r];exact q⟩
  . subst e'
    obtain⟨its,r,pl,hz⟩:=I.tuple hx
    have hlen:=r.length
    exact truthy_tuple pl (by simp only [List.size_toArray];omega) ⟨H,I.tok _,by rw [lW r];exact q⟩
  . subst e'
    obtain⟨hz,hS,vs,r,m⟩:kvs.length<=sizeLine/\(p == sysModules)=false /\ ∃vs,KV kvs vs/\s.heap.DictOf (nC X.prog X.w) p vs:=I.hok p _ hx
    have hlen:kvs.length=vs.length:=Paired.length r
    exact wpAny_truthy_dict hS m (by omega) ⟨H,I.tok _,by rw [tH r];exact q⟩
 | _=>exact(show False from e).elim
theorem yG (ha:PE X a ta)(he:∀whole,isTrue a X.env whole=(do let v <- whole;standAt a.pos;holding [v] (truthy v))) :
  PT X a (fun σ H Q=>ta σ H fun x H'=>∃k,yt X.K x H' k/\Q k H'):=by
 intro pins s σ H Q I h
 exact isTrue_plain (aU (ha pins s σ H _ I h) fun v s1 ⟨x,H1,I1,r1,q1⟩=>Dt pins s1 σ H1 x v Q I1 r1 q1) (he _)
theorem tV:bw X (binaryOp .Add) (fun x y H Q=>∃i j,x = .str i/\y = .str j/\i.length+j.length<=sizeLine/\Q (.str (i++j)) H):=by
 intro pins s σ H x y v u Q I rx ry h
 obtain⟨i,j,rfl,rfl,hz,q⟩:=h
 obtain⟨t,rfl⟩:=rx
 obtain⟨t',rfl⟩:=ry
 exact add_str (fun t' tk=>⟨.str (i++j),H,I.tok _,⟨_,rfl⟩,q⟩) hz
theorem vals1 {x:V}{us:List Value}(r:Vals [x] us):∃u,us = [u]/\RelV x u:=by
 cases r with
 | cons r1 r2=>cases r2;exact⟨_,rfl,r1⟩
theorem vals2 {x y:V}{us:List Value}(r:Vals [x,y] us):∃u w',us = [u,w']/\RelV x u/\RelV y w':=by
 cases r with
 | cons r1 r2 =>
  cases r2 with
  | cons r3 r4=>cases r4;exact⟨_,_,rfl,r1,r3⟩
theorem vR (hc:X.calm=true):b7 X (.builtin "max") (fun xs H Q=>∃i j,xs = [.int i,.int j]/\Q (.int (if j>i then j else i)) H):=by
 intro pins s σ H xs us Q I r h
 obtain⟨i,j,rfl,q⟩:=h
 obtain⟨u,w',rfl,⟨t,rfl⟩,⟨t',rfl⟩⟩:=vals2 r
 refine max_two_ints (I.ok.hd hc) fun h' tk k=>⟨_,H,I.kept k,?_,q⟩
 by_cases hj:j>i
 . rw [if_pos hj,if_pos hj];exact⟨_,rfl⟩
 . rw [if_neg hj,if_neg hj];exact⟨_,rfl⟩
theorem u4 (hc:X.calm=true):b7 X (.builtin "min") (fun xs H Q=>∃i j,xs = [.int i,.int j]/\Q (.int (if j<i then j else i)) H):=by
 intro pins s σ H xs us Q I r h
 obtain⟨i,j,rfl,q⟩:=h
 obtain⟨u,w',rfl,⟨t,rfl⟩,⟨t',rfl⟩⟩:=vals2 r
 refine min_two_ints (I.ok.hd hc) fun h' tk k=>⟨_,H,I.kept k,?_,q⟩
 by_cases hj:j<i
 . rw [if_pos hj,if_pos hj];exact⟨_,rfl⟩
 . rw [if_neg hj,if_neg hj];exact⟨_,rfl⟩
theorem om:b7 X (.type "int") (fun xs H Q=>(∃i,xs = [.int i]/\Q (.int i) H) \/ ∃k,xs = [.bl k]/\Q (.int (if k then 1 else 0)) H):=by
 intro pins s σ H xs us Q I r h
 rcases h with⟨i,rfl,q⟩ | ⟨k,rfl,q⟩
 . obtain⟨u,rfl,t,rfl⟩:=vals1 r
   exact call_int_int ⟨.int i,H,I,⟨_,rfl⟩,q⟩
 . obtain⟨u,rfl,r1⟩:=vals1 r
   cases r1
   exact call_int_bool ⟨.int (if k then 1 else 0),H,I.tok _,⟨_,rfl⟩,q⟩
end
structure Ly (h:Heap)(x dx C:Addr)(mA:Str->Option Value):Prop where
 obj:h.get? x=some (PySem.W.instObj C dx)
 ns:h.Ns1 dx mA
 ne:dx≠x
structure Lm (K:PySem.W.Frag)(C:Addr):Prop where
 pg:PySem.W.plainGet K C Str.empty=true
 hd:PySem.W.hasDictIn K C=true
 po:PySem.W.plainOver K C=true
 sa:PySem.W.findIn K (.ref C) "__setattr__" = some (some (.builtin "object.__setattr__"))
structure LA (K:PySem.W.Frag)(C:Addr)(f:Str)(v:V)(u:Value):Prop where
 at_:PySem.W.findIn K (.ref C) f=some (some u)
 rel:RelV v u
 get:PySem.W.specialIn K u "__get__" = some none
 cp:PySem.W.copiedNames.contains f=false
structure Meth (K:PySem.W.Frag)(C:Addr)(m:Str)(f:Addr):Prop where
 at_:PySem.W.findIn K (.ref C) m=some (some (.ref f))
 fn:PySem.W.isFn K (.ref f)=true
 kp:PySem.W.keepIn K (.ref f)=true
section
variable {X:Cx}{pins:List (Addr×Obj)}{σ:St}{H:Hp}{s:Shared}{A:Around}{E:Value->Shared->Prop}{Q:Value->Shared->Prop}{c:Value}{b:Bool}
inductive hZ (K:PySem.W.Frag)(H:Hp):V->Value->Prop where
 | non:hZ K H .non (.type "NoneType")
 | bl (x:Bool):hZ K H (.bl x) (.type "bool")
 | int (i:Int):hZ K H (.int i) (.type "int")
 | str (x:Str):hZ K H (.str x) (.type "str")
 | dW (x:UInt64):hZ K H (.dW x) (.type "float")
 | lst {a:Addr} {xs:List V} (e:H a=some (.lst xs)):hZ K H (.ref a) (.type "list")
 | frz {a:Addr} {o:Obj} {xs:List V} (e:H a=some (.frz o (.lst xs))):hZ K H (.ref a) (.type "list")
 | tup {a:Addr} {xs:List V} (e:H a=some (.tup xs)):hZ K H (.ref a) (.type "tuple")
 | dK {a:Addr} {kvs:List (Key×V)} (e:H a=some (.dK kvs)):hZ K H (.ref a) (.type "dict")
 | dT {a:Addr} {kvs:List (List Key×V)} (e:H a=some (.dT kvs)):hZ K H (.ref a) (.type "dict")
 | ins {a C dx:Addr} {fs:List (Str×V)} (e:H a=some (.ins C dx fs)) (cl:Lm K C) (ha:PySem.W.findIn K (.ref C) "__class__" = some (some (.builtin "object.__class__")))
  (hn:PySem.W.specialIn K (.builtin "object.__class__") "__get__" = some (some (.builtin "getset_descriptor.__get__"))) (htk:PySem.W.takesIn K (.builtin "object.__class__")=some true)
  (hm:PySem.W.mroIn K C (.type "object")=some true):hZ K H (.ref a) (.ref C)
end
structure aC (k:Nat)(A:Around):Prop where
 hd:A.handled=none
 dp:A.depth+3*k+5<recursionLimit
 un:A.units+16*k+200<cLine
 gd:A.guards=some []
theorem aC.deeper {k:Nat}{A:Around}(r:aC (k+1) A)(env:Env):aC k (A.deeper env) :=
 ⟨r.hd,by have:=r.dp;show A.depth+1+3*k+5<_;omega,by have:=r.un;show A.units+3+16*k+200<_;omega,by first | exact r.gd | (simp [Around.deeper];exact r.gd)⟩
theorem aC.depth {k:Nat}{A:Around}(r:aC k A):A.depth<recursionLimit:=by have:=r.dp;omega
theorem aC.units {k:Nat}{A:Around}(r:aC k A):A.units+64<cLine:=by have:=r.un;omega
def Dy:TA:=fun _ H Q=>Q [] H
def Gm (ta:TE)(tr:TA):TA:=fun σ H Q=>ta σ H fun x H1=>tr σ H1 fun xs H2=>Q (x::xs) H2
section
variable {X:Cx}{e:Expr}{es:List Expr}{te:TE}{t:TA}{pos:Pos}
theorem lQ:PA X [] Dy:=fun _ _ _ _ H Q I h=>Calls.spliced_nil ⟨[],H,I,.nil,h⟩
theorem iP (ha:PE X e te)(hr:PA X es t)(hs:starEach (e::es) X.env=(false,eval e X.env)::starEach es X.env:=by rfl):PA X (e::es) (Gm te t):=by
 intro pos pins s σ H Q I h
 rw [hs]
 show wpAny _ _ (spliced ((false,eval e X.env)::backTo pos (starEach es X.env))) _ _ s
 refine Calls.spliced_cons (aU (ha pins s σ H _ I h) fun u s1 ⟨x,H1,I1,r1,q1⟩=>?_)
 exact aU (hr pos pins s1 σ H1 _ I1 q1) fun us s2 ⟨xs,H2,I2,r2,q2⟩=>⟨x::xs,H2,I2,.cons r1 r2,q2⟩
def IQ (t:TA):TE:=fun σ H Q=>t σ H fun xs H1=>xs.length<=sizeLine /\ ∀p,H1 p=none->Q (.ref p) (upd H1 p (.tup xs))
def IE (t:TA):TE:=fun σ H Q=>t σ H fun xs H1=>xs.length<=sizeLine /\ ∀p,H1 p=none->Q (.ref p) (upd H1 p (.lst xs))
theorem Dx {x1}(h:PA X es t):PE X (.Tuple es x1 pos) (IQ t):=by
 intro pins s σ H Q I hq
 refine wpAny_Tuple_spliced (aU (h pos pins s σ H _ I hq) fun us s1 ⟨xs,H1,I1,r,z,q⟩=>⟨by rw [<- r.length];exact z,?_⟩)
 have hf:H1 s1.heap.objs.size=none:=I1.hok.fresh (Nat.le_refl _)
 refine⟨.ref s1.heap.objs.size,upd H1 s1.heap.objs.size (.tup xs),I1.laid (t':=s1.toks) (fun b u e=>Heap.get?_push_of_some _ e) (Nat.le_refl _) ?_,rfl,q _ hf⟩
 exact⟨z,us,r,⟨_,Heap.get?_push_size _ rfl,rfl,⟨_,rfl⟩,rfl⟩⟩
theorem uV (h:PA X es t):PE X (.List es pos) (IE t):=by
 intro pins s σ H Q I hq
 refine wpAny_List_spliced (aU (h pos pins s σ H _ I hq) fun us s1 ⟨xs,H1,I1,r,z,q⟩=>⟨by rw [<- r.length];exact z,?_⟩)
 have hf:H1 s1.heap.objs.size=none:=I1.hok.fresh (Nat.le_refl _)
 refine⟨.ref s1.heap.objs.size,upd H1 s1.heap.objs.size (.lst xs),I1.laid (t':=s1.toks) (fun b u e=>Heap.get?_push_of_some _ e) (Nat.le_refl _) ?_,rfl,q _ hf⟩
 exact⟨z,us,0,r,Heap.get?_push_size _ rfl⟩
end
abbrev Sp:=List V->Hp->VK->XK->Prop
abbrev js:=List Env->Hp->Shared->XK->Value->Shared->Prop
structure uc (P:Program)(w:World)(K:PySem.W.Frag)(mg:Str->Option Value)(base:Heap)(A:Around)(outer:List Env)(s:Shared)(H:Hp):Prop where
 frames:A.frames=some outer
 mod:Mod K mg base
 bs:∀b o,base.get? b=some o->s.heap.get? b=some o/\H b=none
 bsz:base.objs.size<=s.heap.objs.size
 gU:s.heap.FunFrames base outer
 frf:∀b∈jw outer,H b=none
 hok:dU P w H s.heap
 bare:AllBare s.gens
def CE (outer:List Env)(P:Program)(w:World)(H:Hp)(s:Shared)(Q:VK)(u:Value)(s':Shared):Prop :=
 ∃v H',s'.os=s.os/\AllBare s'.gens/\Un (jw outer) [] H H' s.heap s'.heap/\dU P w H' s'.heap/\RelV v u/\Q v H'
def CR (CX:js)(outer:List Env)(P:Program)(w:World)(H:Hp)(s:Shared)(Q:VK)(E:XK)(r:Result)(s':Shared):Prop :=
 match r with
 | .ok (.ret u)=>CE outer P w H s Q u s'
 | .ok _=>False
 | .error e=>CX outer H s E e s'
structure cV (P:Program)(w:World)(K:PySem.W.Frag)(mg:Str->Option Value)(base:Heap)(CX:js)(k:Nat)(f:Addr)(fd:FuncData)(ps:List Str)(sp:Sp):Prop where
 len:∀vs H Q E,sp vs H Q E->vs.length=ps.length
 run:∀(A:Around) (outer:List Env) (s:Shared) (H:Hp) (args:Args) (us:List Value) (vs:List V) (Q:VK) (E:XK),aC k A->uc P w K mg base A outer s H->BindsTo s fd args (ps.zip us)->Vals vs us->sp vs H Q E ->
  codeAny (model P w) A (.call (.ref f) args) (CR CX outer P w H s Q E) s
theorem cV.imp {P:Program}{w:World}{K:PySem.W.Frag}{mg:Str->Option Value}{base:Heap}{CX:js}{k:Nat}{f:Addr}{fd:FuncData}{ps:List Str}{sp sp':Sp}(F:cV P w K mg base CX k f fd ps sp)
  (h:∀vs H Q E,sp' vs H Q E->sp vs H Q E):cV P w K mg base CX k f fd ps sp' :=
 ⟨fun vs H Q E q=>F.len vs H Q E (h _ _ _ _ q),fun A outer s H args us vs Q E hr he hb hv hs=>F.run A outer s H args us vs Q E hr he hb hv (h _ _ _ _ hs)⟩
section
variable {X:Cx}{pins:List (Addr×Obj)}{σ:St}{H:Hp}{s s':Shared}
theorem Inv.JB (I:Inv X pins σ H s):uc X.prog X.w X.K X.mg X.base X.A X.stack s H :=
 ⟨I.ok.frames,I.ok.mod,I.bs,Nat.le_trans I.ok.bsz I.sz,I.stack,I.sH,I.hok,I.bare⟩
theorem Inv.after {Q:VK}{u:Value}(I:Inv X pins σ H s)(h:CE X.stack X.prog X.w H s Q u s'):EP X pins σ Q u s':=by
 obtain⟨v,H',os,bare,un,hok,r,q⟩:=h
 obtain⟨hh,g,d,t,os'⟩:=s'
 obtain rfl:os'=s.os:=os
 exact⟨v,H',I.call (h':=hh) (g':=g) (d':=d) (t':=t) (ch:=[]) un hok bare (fun b z=>absurd z (by simp)),r,q⟩
end
def tK (sp:Sp)(dvs:List V)(E:XK)(t:TA):TE:=fun σ H Q=>t σ H fun vs H1=>sp (vs++dvs) H1 Q E
def Binds (K:PySem.W.Frag)(fd:FuncData)(ps:List Str)(ds:List Value):Prop :=
 ∀(s:Shared) (us:List Value),K.In s.heap->(us++ds).length=ps.length->BindsTo s fd ⟨us,[]⟩ (ps.zip (us++ds))
theorem Binds.all {K:PySem.W.Frag}{fd:FuncData}{ps:List Str}(h:∀us:List Value,us.length=ps.length->bindArgs fd ⟨us,[]⟩=pure (ps.zip us)):Binds K fd ps []:=fun s us _ hl=>by
 rw [List.append_nil] at hl ⊢
 exact .of_eq (h us hl)
def Passes (CX:js)(X:Cx)(E:XK):Prop:=∀(pins:List (Addr×Obj)) (σ:St) (H:Hp) (s:Shared) (e:Value) (s':Shared),Inv X pins σ H s->CX X.stack H s E e s'->X.xe e s'
section
variable {X:Cx}{CX:js}{k:Nat}{f C:Addr}{fd:FuncData}{ps:List Str}{sp:Sp}{dvs:List V}{ds:List Value}{E:XK}{x m:Str}{p pos apos:Pos}{e o:Expr}{es:List Expr}{ta:TE}{t:TA}
theorem v7 {pins:List (Addr×Obj)}{σ:St}{H:Hp}{s:Shared}{Q:VK}{us:List Value}{vs:List V}(F:cV X.prog X.w X.K X.mg X.base CX k f fd ps sp)(hr:aC k X.A)(hb:Binds X.K fd ps ds)(hd:Vals dvs ds)(hx:Passes CX X E)
  (I:Inv X pins σ H s) (r:Vals vs us) (h:sp (vs++dvs) H Q E):wpAny (model X.prog X.w) X.A (call (.ref f) us) (EP X pins σ Q) X.xe s:=by
 have r2:Vals (vs++dvs) (us++ds):=r.append hd
 have hl:(us++ds).length=ps.length:=by rw [<- r2.length];exact F.len _ _ _ _ h
 refine wpAny_call (codeAny_mono (F.run X.A X.stack s H ⟨us,[]⟩ (us++ds) (vs++dvs) Q E hr I.JB (hb s us I.gB hl) r2 h) fun r s' hq=>?_)
 cases r with
 | error e=>exact hx pins σ H s e s' I hq
 | ok fl =>
  cases fl with
  | ret u=>exact I.after hq
  | next=>exact False.elim hq
  | brk=>exact False.elim hq
  | cont=>exact False.elim hq
theorem An (F:cV X.prog X.w X.K X.mg X.base CX k f fd ps sp)(hr:aC k X.A)(hg:Gl X x)(hm:X.mg x=some (.ref f))(hk:PySem.W.keepIn X.K (.ref f)=true)(hb:Binds X.K fd ps ds)(hd:Vals dvs ds)(hx:Passes CX X E)
  (ha:PA X (e::es) t) (hdb:(x == ("__debug__":Str))=false:=by decide) (he:starEach (e::es) X.env=(false,eval e X.env)::starEach es X.env:=by rfl) (hpl:(backTo pos (starEach es X.env)).any (·.1)=false:=by rfl) :
  PE X (.Call (.Name x p) (e::es) [] pos) (tK sp dvs E t):=by
 intro pins s σ H Q I h
 refine wpAny_Call_Name_kw (nB I hg hm ?_ hdb)
 refine PySem.W.callWith_K (h₀:=X.base) I.ok.mod.kin hk (aU (ha pos pins s σ H _ I h) fun us s1 ⟨vs,H1,I1,r,q⟩=>⟨I1.gB,?_⟩) he hpl
 exact v7 F hr hb hd hx I1 r q
theorem xO (F:cV X.prog X.w X.K X.mg X.base CX k f fd ps sp)(hr:aC k X.A)(hg:Gl X x)(hm:X.mg x=some (.ref f))(hk:PySem.W.keepIn X.K (.ref f)=true)(hb:Binds X.K fd ps ds)(hd:Vals dvs ds)(hx:Passes CX X E)
  (hdb:(x == ("__debug__":Str))=false:=by decide):PE X (.Call (.Name x p) [] [] pos) (tK sp dvs E Dy):=by
 intro pins s σ H Q I h
 refine wpAny_Call_Name_kw (nB I hg hm ?_ hdb)
 exact PySem.W.callWith_K0 I.gB hk (v7 (us:=[]) F hr hb hd hx I .nil h)
structure Mk (K:PySem.W.Frag)(C f:Addr):Prop where
 makes:PySem.W.makesIn K C=true
 init:PySem.W.findIn K (.ref C) "__init__" = some (some (.ref f))
 fn:PySem.W.isFn K (.ref f)=true
 kp:PySem.W.keepIn K (.ref C)=true
end
section
variable {X:Cx}{CX:js}{k:Nat}{f C:Addr}{fd:FuncData}{ps ks:List Str}{sp:Sp}{E:XK}{x m:Str}{p pos apos kpos:Pos}{e o:Expr}{es:List Expr}{kws:List Keyword}{te ta:TE}{t tk:TA}{nm:Option Str}
structure KD (K:PySem.W.Frag)(fd:FuncData)(ps ks:List Str)(g:List Value->List Value->List Value)(gV:List V->List V->List V):Prop where
 to:∀(s:Shared) (us ws:List Value),K.In s.heap->(g us ws).length=ps.length->BindsTo s fd ⟨us,ks.zip ws⟩ (ps.zip (g us ws))
 rel:∀{vs:List V} {us:List Value} {zs:List V} {ws:List Value},Vals vs us->Vals zs ws->Vals (gV vs zs) (g us ws)
variable {g:List Value->List Value->List Value}{gV:List V->List V->List V}
end
structure gO (N P:List Str)(sc:Scope):Prop where
 kind:sc.kind = .function
 co:sc.isCoroutine=false
 gen:sc.isGenerator=false
 nd:N.Nodup
 pre:N.take P.length=P
 par:∀x∈P,sc.names.lookup x=some .local\/sc.names.lookup x=some .cell
 nofree:∀y∈sc.names,y.2 ≠ .free
theorem nO {kindOf:Str->Option NameKind}{x:Str}:∀{binds:List (Str×Value)} {m:Str->Option Value},(∀v,(x,v) ∉ binds)->bindL kindOf binds m x=m x
 | [],_,_=>rfl
 | (n,v)::r,m,h=>by
  unfold bindL
  rw [nO fun w hw=>h w (List.mem_cons_of_mem _ hw)]
  split
  . have:x≠n:=by rintro rfl;exact h v List.mem_cons_self
    simp [this]
  . rfl
theorem nS {kindOf:Str->Option NameKind}{x:Str}:∀{binds:List (Str×Value)} {m:Str->Option Value},(∀v,(x,v) ∉ binds)->bindC kindOf binds m x=m x
 | [],_,_=>rfl
 | (n,v)::r,m,h=>by
  unfold bindC
  rw [nS fun w hw=>h w (List.mem_cons_of_mem _ hw)]
  split
  . rfl
  . have:x≠n:=by rintro rfl;exact h v List.mem_cons_self
    simp [this]
theorem nR {kindOf:Str->Option NameKind}{x:Str}{v:Value}:∀{P:List Str} {vs:List Value} {i:Nat} {m:Str->Option Value},P.Nodup->P[i]? = some x->vs[i]? = some v->kindOf x=some .local ->
  bindL kindOf (P.zip vs) m x=some v
 | [],_,_,_,_,h,_,_=>by simp at h
 | _::_,[],_,_,_,_,h,_=>by simp at h
 | p::P,w::vs,0,m,nd,h1,h2,hk=>by
  simp at h1 h2;subst h1;subst h2
  show bindL kindOf ((p,w)::P.zip vs) m p=_
  unfold bindL
  rw [nO fun v hv=>(List.nodup_cons.mp nd).1 (List.of_mem_zip hv).1,if_pos hk]
  simp
 | p::P,w::vs,i+1,m,nd,h1,h2,hk=>by
  show bindL kindOf ((p,w)::P.zip vs) m x=_
  unfold bindL
  exact nR (i:=i) (List.nodup_cons.mp nd).2 (by simpa using h1) (by simpa using h2) hk
theorem nH {kindOf:Str->Option NameKind}{x:Str}{v:Value}:∀{P:List Str} {vs:List Value} {i:Nat} {m:Str->Option Value},P.Nodup->P[i]? = some x->vs[i]? = some v->kindOf x≠some .local ->
  bindC kindOf (P.zip vs) m x=some v
 | [],_,_,_,_,h,_,_=>by simp at h
 | _::_,[],_,_,_,_,h,_=>by simp at h
 | p::P,w::vs,0,m,nd,h1,h2,hk=>by
  simp at h1 h2;subst h1;subst h2
  show bindC kindOf ((p,w)::P.zip vs) m p=_
  unfold bindC
  rw [nS fun v hv=>(List.nodup_cons.mp nd).1 (List.of_mem_zip hv).1,if_neg hk]
  simp
 | p::P,w::vs,i+1,m,nd,h1,h2,hk=>by
  show bindC kindOf ((p,w)::P.zip vs) m x=_
  unfold bindC
  exact nH (i:=i) (List.nodup_cons.mp nd).2 (by simpa using h1) (by simpa using h2) hk
def start (N:List Str)(vs:List V):St:=vs.map some++List.replicate (N.length-vs.length) none
def jM (CX:js)(P:Program)(w:World)(K:PySem.W.Frag)(mg:Str->Option Value)(base:Heap)(N:List Str)(qual:Str)(scope:Scope)(f:Addr)(cd:Value)(A:Around)(outer:List Env)(s:Shared)(H:Hp)(E:XK):Cx where
 prog:=P
 w:=w
 K:=K
 mg:=mg
 base:=base
 A:=A.deeper (envOfC qual scope s.heap.objs.size f cd)
 N:=N
 s₀:=s
 H₀:=H
 env:=envOfC qual scope s.heap.objs.size f cd
 outer:=outer
 stack:=envOfC qual scope s.heap.objs.size f cd::outer
 ex:=[]
 calm:=true
 fn:=fun _=>true
 pn:=[]
 xe:=fun e s'=>wpAny (model P w) (A.deeper (envOfC qual scope s.heap.objs.size f cd)) (leaving (envOfC qual scope s.heap.objs.size f cd) e) (fun _ s''=>CX outer H s E e s'') (fun e' s''=>CX outer H s E e' s'') s'
theorem qq {sc:Scope}{n:Nat}{x:Str}(h:sc.names.lookup x=some .cell):∃c,(cellsFrom n sc.names []).lookup x=some c:=by
 have q:=PySem.W.cellsFrom_some sc.names n [] (.inl h)
 exact Option.isSome_iff_exists.mp q
theorem vM {CX:js}{P:Program}{w:World}{K:PySem.W.Frag}{mg:Str->Option Value}{base:Heap}{N ps:List Str}{qual:Str}{scope:Scope}{f:Addr}{cd:Value}{A:Around}{outer:List Env}{s s1:Shared}{H:Hp}{E:XK}{us:List Value}{vs:List V}
   (S:gO N ps scope) (hd:A.handled=none) (e0:uc P w K mg base A outer s H) (hl:vs.length=ps.length) (r:Vals vs us)
   (x:InCallC s s.heap.objs.size (bindL (envOfC qual scope s.heap.objs.size f cd).kindOf (ps.zip us) fun _=>none) (cellsFrom (s.heap.objs.size+1) scope.names []) (bindC (envOfC qual scope s.heap.objs.size f cd).kindOf (ps.zip us) fun _=>none) s1) :
   Inv (jM CX P w K mg base N qual scope f cd A outer s H E) [] (start N vs) H s1:=by
 have hpl:ps.length<=N.length:=by have:=congrArg List.length S.pre;rw [List.length_take] at this;omega
 obtain⟨h1,tk,rfl,hk⟩:=x.done
 have noA:∀b:Addr,b ∉ (jM CX P w K mg base N qual scope f cd A outer s H E).ex:=fun b z=>absurd (show b∈([]:List Addr) from z) (by simp)
 refine⟨⟨e0.mod,S.kind,rfl,rfl,Nat.le_refl _,fun y z c h1 h2=>?_,fun y hy=>?_,fun y c _ h=>?_,fun _=>hd,Around.frames_deeper e0.frames,.inr ⟨rfl,rfl⟩,fun b z=>absurd z (noA b),e0.bs,e0.bsz,fun b _ _=>noA b,fun b z=>absurd z (noA b),e0.gU,e0.frf⟩,
   rfl,e0.bare,Un.kept hk,⟨_,x.toInCall.ns,fun i y v h1 h2 h3=>?_⟩,fun y c h=>⟨_,x.cell y c h⟩,e0.hok.fresh (Nat.le_refl _),fun y c h=>?_,fun p hp=>absurd (show p∈([]:List (Addr×Obj)) from hp) (by simp),e0.hok.kept hk,?_⟩
 . exact name_of_addr x.apart (PySem.mem_of_lookup h1) (PySem.mem_of_lookup h2)
 . have hy:scope.names.lookup y=some .cell\/scope.names.lookup y=some .free:=hy
   rcases hy with hy | hy
   . exact qq hy
   . exact absurd rfl (S.nofree _ (PySem.mem_of_lookup hy))
 . exact Nat.le_of_lt (x.above y c (PySem.mem_of_lookup h))
 . have hi:i<vs.length:=by
     unfold start at h2
     by_cases hi:i<vs.length
     . exact hi
     . rw [List.getElem?_append_right (by simpa using hi)] at h2
       rw [List.getElem?_replicate] at h2
       split at h2<;>cases h2
   have ha:vs[i]? = some v:=by
     unfold start at h2
     rw [List.getElem?_append_left (by simpa using hi),List.getElem?_map] at h2
     cases e:vs[i]? with
     | none=>rw [e] at h2;cases h2
     | some a=>rw [e] at h2;cases h2;rfl
   obtain⟨u,hu,rv⟩:=r.get ha
   have hp:ps[i]? = some y:=by
     rw [<- S.pre,List.getElem?_take_of_lt (by omega)];exact h1
   have ndP:ps.Nodup:=by rw [<- S.pre];exact S.nd.sublist (List.take_sublist _ _)
   refine⟨u,rv,?_⟩
   rcases S.par y (List.mem_of_getElem? hp) with k | k
   . exact .inl ⟨k,nR ndP hp hu k⟩
   . obtain⟨c,e⟩:=qq (n:=s.heap.objs.size+1) k
     refine .inr ⟨.inl k,c,e,?_⟩
     have q:=x.cell y c e
     rw [nH ndP hp hu (by show scope.names.lookup y≠_;rw [k];decide)] at q
     exact q
 . exact e0.hok.fresh (Nat.le_of_lt (x.above y c (PySem.mem_of_lookup h)))
 . unfold start
   show _=N.length
   rw [List.length_append,List.length_map,List.length_replicate]
   omega
theorem Gu {CX:js}{P:Program}{w:World}{K:PySem.W.Frag}{mg:Str->Option Value}{base:Heap}{k:Nat}{f:Addr}{name qual:Str}{params:Arguments}{body:List Stmt}{scope:Scope}{dV kV doc pm cdv ct oc:Value}{an od:Option Addr}
  {osl:Array (Option Value)} {N ps:List Str} {sp:Sp} (lk:K.lookup f=some ⟨oc,od,.func (PySem.W.fnOf name qual params body scope dV kV doc pm an cdv ct),osl⟩) (hcd:PySem.W.codeIn K cdv qual=true) (S:gO N ps scope)
  (len:∀vs H Q E,sp vs H Q E->vs.length=ps.length)
  (hbody:∀(A:Around) (outer:List Env) (s:Shared) (H:Hp) (vs:List V) (Q:VK) (E:XK),aC k (A.deeper (envOfC qual scope s.heap.objs.size f cdv))->sp vs H Q E ->
    ∃t,fu (jM CX P w K mg base N qual scope f cdv A outer s H E) body t/\t { nx:=fun _ H'=>Q .non H',rt:=Q } (start N vs) H) :
  cV P w K mg base CX (k+1) f (PySem.W.fnOf name qual params body scope dV kV doc pm an cdv ct) ps sp:=by
 refine⟨len,fun A outer s H args us vs Q E hr e0 hb r hsp=>?_⟩
 have hl:=len _ _ _ _ hsp
 have KX:K.In s.heap:=e0.mod.kin.keeps fun b o e=>(e0.bs b o e).1
 have lim:s.heap.NoLimit:=e0.mod.nolimit.keeps fun b o e=>(e0.bs b o e).1
 have hkind:∀y∈ps.zip us,scope.names.lookup y.1=some .local\/(scope.names.lookup y.1=some .cell/\((cellsFrom (s.heap.objs.size+1) scope.names []).lookup y.1).isSome=true):=fun⟨n,v⟩ hy=>by
  rcases S.par n (List.of_mem_zip hy).1 with q | q
  . exact .inl q
  . exact .inr ⟨q,PySem.W.cellsFrom_some _ _ _ (.inl q)⟩
 refine codeAny_call_function hr.depth (KX _ _ lk) rfl S.co S.gen rfl (PySem.W.codeRec_of KX hcd) (hb _ _ _ _ ?_)
 refine wpAny_newFunctionEnv_cells S.kind hkind fun env he s1 x=>?_
 subst he
 refine⟨lim.keeps x.toInCall.keep,codeAny_func ?_⟩
 obtain⟨t,ht,hq⟩:=hbody A outer s H vs Q E (hr.deeper _) hsp
 have I:Inv (jM CX P w K mg base N qual scope f cdv A outer s H E) [] (start N vs) H s1:=vM S hr.hd e0 hl r x
 refine wpAny_mono (ht [] s1 (start N vs) H _ I hq) (fun fl s' hs=>?_) fun e s' hs=>hs
 have fin:∀{σ':St} {H':Hp} {v:V} {u:Value},Inv (jM CX P w K mg base N qual scope f cdv A outer s H E) [] σ' H' s'->RelV v u->Q v H'->CE outer P w H s Q u s' :=
  fun {σ' H' v u} J rv q=>⟨v,H',J.os,J.bare,J.base,J.hok,rv,q⟩
 cases fl with
 | ret u =>
  obtain⟨v,σ',H',J,rv,q⟩:=hs
  exact fin J rv q
 | next =>
  obtain⟨σ',H',J,q⟩:=hs
  exact fin (v:=V.non) (u:=Value.none) J rfl q
 | brk =>
  obtain⟨_,_,_,q⟩:=hs
  exact False.elim q
 | cont =>
  obtain⟨_,_,_,q⟩:=hs
  exact False.elim q
section
variable {X:Cx}{x:Str}{p pos:Pos}{e:Expr}{es:List Expr}{t:TA}{id T:String}{r:List V->Hp->VK->Prop}
def GS (r:List V->Hp->VK->Prop)(t:TA):TE:=fun σ H Q=>t σ H fun vs H1=>r vs H1 Q
theorem qw (hc:b7 X (.builtin id) r)(hg:Gl X x)(hm:X.mg x=none)(hv:bootBuiltins x=some (.builtin id))(ha:PA X (e::es) t)(hn:x ≠ "__name__":=by decide)(hdb:(x == ("__debug__":Str))=false:=by decide)
  (he:starEach (e::es) X.env=(false,eval e X.env)::starEach es X.env:=by rfl) (hpl:(backTo pos (starEach es X.env)).any (·.1)=false:=by rfl):PE X (.Call (.Name x p) (e::es) [] pos) (GS r t):=by
 intro pins s σ H Q I h
 refine wpAny_Call_Name_kw (eY I hg hm hv ?_ hn hdb)
 exact PyProof.Rows.callWith_builtin1 (aU (ha pos pins s σ H _ I h) fun us s1 ⟨vs,H1,I1,r1,q1⟩=>hc pins s1 σ H1 vs us Q I1 r1 q1) he hpl
theorem wg (hc:b7 X (.type T) r)(hg:Gl X x)(hm:X.mg x=none)(hv:bootBuiltins x=some (.type T))(ha:PA X (e::es) t)(hn:x ≠ "__name__":=by decide)(hdb:(x == ("__debug__":Str))=false:=by decide)
  (he:starEach (e::es) X.env=(false,eval e X.env)::starEach es X.env:=by rfl) (hpl:(backTo pos (starEach es X.env)).any (·.1)=false:=by rfl):PE X (.Call (.Name x p) (e::es) [] pos) (GS r t):=by
 intro pins s σ H Q I h
 refine wpAny_Call_Name_kw (eY I hg hm hv ?_ hn hdb)
 exact PyProof.Rows.callWith_type1 (aU (ha pos pins s σ H _ I h) fun us s1 ⟨vs,H1,I1,r1,q1⟩=>hc pins s1 σ H1 vs us Q I1 r1 q1) he hpl
end
end L2
namespace HT
open PySem PyProof.Rows
section
open PySem.SeqAt
open PySem.AutoSeq1 (wpAny_loadPart')
open PySem.MeetsSeq PySem.MeetsSeq2 PySem.MeetsSeq3
end
section
variable {prog:Program}{w:World}{A:Around}{E:Value->Shared->Prop}{s:Shared}
theorem Bv {t b:Addr}{vs ws:List Value}{Q:Value->Shared->Prop}(ht:IsTup s.heap t vs.toArray)(hb:IsTup s.heap b ws.toArray)(hv:vs ≠ [])
   (h1:ws = []->Q (.ref t) s) (h2:ws ≠ []->Q (.ref s.heap.objs.size) { s with heap:=s.heap.push { cls:=.type "tuple",data:=.seq (vs++ws).toArray } })
   (hsz:vs.length+ws.length<=sizeLine):wpAny (model prog w) A (binaryOp .Add (.ref t) (.ref b)) Q E s:=by
 obtain⟨⟨cls,dd,data,sl⟩,ho,hc,n,hd⟩:=id ht
 obtain⟨⟨cls2,dd2,data2,sl2⟩,ho2,hc2,n2,hd2⟩:=id hb
 simp only at hc hd hc2 hd2
 subst hc hd hc2 hd2
 have e:vs.toArray++ws.toArray=(vs++ws).toArray:=by simp
 by_cases hw:ws = []
 . exact concat_meets ⟨_,ho,rfl⟩ ⟨_,ho2,rfl⟩ noFill_tuple_add seq_tuple_add PySem.F.slot_tuple_add PySem.F.entry_tuple_add (PySem.F.args_tuple_add_2 _ _)
    (tuple_addW1 t b vs.toArray ws.toArray n n2 dd dd2 sl sl2 (by simpa using hv) (by simp [hw])) ⟨ho,ho2,h1 hw⟩
 . refine concat_meets ⟨_,ho,rfl⟩ ⟨_,ho2,rfl⟩ noFill_tuple_add seq_tuple_add PySem.F.slot_tuple_add PySem.F.entry_tuple_add (PySem.F.args_tuple_add_2 _ _)
    (tuple_addW2 t b vs.toArray ws.toArray n n2 dd dd2 sl sl2 (by simpa using hv) (by simpa using hw) (by rw [List.size_toArray,List.size_toArray];exact hsz)) ⟨ho,ho2,?_⟩
   rw [e]
   exact h2 hw
def bq (n d:Nat):Option Int->Nat
 | none=>d
 | some v=>if v<0 then(v+(n:Int)).toNat else min v.toNat n
theorem qy (n d:Nat):bq n d none=d:=rfl
theorem sG (n d k:Nat):bq n d (some (k:Int))=min k n:=by
 show(if(k:Int)<0 then((k:Int)+(n:Int)).toNat else min (k:Int).toNat n)=min k n
 rw [if_neg (by omega),Int.toNat_natCast]
theorem E5 (n d:Nat)(hd:d<=n)(o:Option Int):bq n d o<=n:=by
 cases o with
 | none=>exact hd
 | some v =>
  show(if v<0 then(v+(n:Int)).toNat else min v.toNat n)<=n
  by_cases hv:v<0
  . rw [if_pos hv];omega
  . rw [if_neg hv];exact Nat.min_le_right _ _
theorem sE (v:Int)(n d:Nat):(if v<0 then max (v+(n:Int)) 0 else min v (n:Int))=((bq n d (some v):Nat):Int):=by
 show(if v<0 then max (v+(n:Int)) 0 else min v (n:Int))=(((if v<0 then(v+(n:Int)).toNat else min v.toNat n):Nat):Int)
 by_cases hv:v<0
 . simp only [if_pos hv];omega
 . simp only [if_neg hv];omega
theorem tZ (lo hi:Option Int)(n:Nat):Builtin.Slice.sliceAdjust lo hi 1 (n:Int)=(((bq n 0 lo:Nat):Int),((bq n n hi:Nat):Int)):=by
 have h1:¬((1:Int)<0):=by omega
 unfold Builtin.Slice.sliceAdjust
 simp only [h1,if_false]
 refine Prod.ext ?_ ?_
 . cases lo with
   | none=>rfl
   | some v=>exact sE v n 0
 . cases hi with
   | none=>rfl
   | some v=>exact sE v n n
theorem um (i j:Nat):Builtin.Slice.slicePlaces (i:Int) (j:Int) 1=j-i:=by
 unfold Builtin.Slice.slicePlaces
 have h1:(1:Int)>0:=by omega
 simp only [h1,if_true,Int.ediv_one]
 split<;>omega
theorem mn {v:Value}{o:Option Int}{Q:Option Int->Shared->Prop}(p:IsPart v o)(h:Q o s):wpAny (model prog w) A (Builtin.Slice.slicePartIndex v) Q E s:=by
 cases p with
 | none=>exact slicePart_none h
 | int i t=>exact slicePart_int h
theorem g0 {sl:Addr}{vl vu:Value}{lo hi:Option Int}{n:Nat}{Q:Int×Int×Nat->Shared->Prop}(hs:s.heap.IsSliceOf sl vl vu .none)(pl:IsPart vl lo)(pu:IsPart vu hi)
  (h:Q (((bq n 0 lo:Nat):Int),1,bq n n hi-bq n 0 lo) s):wpAny (model prog w) A (Builtin.Slice.sliceApplied (.ref sl) (pure (n:Int))) Q E s:=by
 obtain⟨os,hos,hcs,hds⟩:=id hs
 unfold Builtin.Slice.sliceApplied Builtin.Slice.sliceFields
 refine wpAny_bind (wpAny_bind (wpAny_field hos hds (x:=vl) rfl (wpAny_bind (wpAny_field hos hds (x:=vu) rfl (wpAny_bind (wpAny_field hos hds (x:=.none) rfl (wpAny_pure ?_)))))))
 refine wpAny_bind (slicePart_none ?_)
 show wpAny _ _ (if((1:Int) == 0)=true then _ else _) _ _ s
 rw [if_neg (by decide)]
 refine wpAny_bind (mn pl (wpAny_bind (mn pu (wpAny_bind (wpAny_pure ?_)))))
 show wpAny _ _ (match Builtin.Slice.sliceAdjust lo hi 1 (n:Int) with | (lo,hi)=>pure (lo,(1:Int),Builtin.Slice.slicePlaces lo hi 1)) _ _ s
 rw [tZ lo hi n]
 show wpAny _ _ (pure (((bq n 0 lo:Nat):Int),(1:Int),Builtin.Slice.slicePlaces ((bq n 0 lo:Nat):Int) ((bq n n hi:Nat):Int) 1)) _ _ s
 rw [um]
 exact wpAny_pure h
theorem xZ (xs:Array Value)(i k:Nat):((List.range k).filterMap fun(m:Nat)=>xs[((i:Int)+(m:Int)*1).toNat]?).toArray=((xs.toList.drop i).take k).toArray:=by
 have e:(fun(m:Nat)=>xs[((i:Int)+(m:Int)*1).toNat]?)=fun m=>xs[i+m]?:=by
  funext m
  have:((i:Int)+(m:Int)*1).toNat=i+m:=by omega
  rw [this]
 rw [e]
 have:=pick_run xs i k
 rw [List.filterMap_map] at this
 have e2:((fun x=>xs[x]?) ∘ fun x=>i+x)=fun m=>xs[i+m]?:=rfl
 rw [e2] at this
 rw [this]
theorem kI {t sl:Addr}{items:Array Value}{vl vu:Value}{lo hi:Option Int}{Q:Value->Shared->Prop}(ht:IsTup s.heap t items)(hs:s.heap.IsSliceOf sl vl vu .none)(pl:IsPart vl lo)(pu:IsPart vu hi)
  (hw:¬(bq items.size 0 lo=0/\bq items.size items.size hi=items.size))
  (h:Q (.ref s.heap.objs.size) { s with heap:=s.heap.push { cls:=.type "tuple",data:=.seq ((items.toList.drop (bq items.size 0 lo)).take (bq items.size items.size hi-bq items.size 0 lo)).toArray } })
  (hsz:items.size<=sizeLine):wpAny (model prog w) A (getItem (.ref t) (.ref sl)) Q E s:=by
 have htake:sizeOk (.seq ((items.toList.drop (bq items.size 0 lo)).take (bq items.size items.size hi-bq items.size 0 lo)).toArray):=by
  show((items.toList.drop (bq items.size 0 lo)).take (bq items.size items.size hi-bq items.size 0 lo)).toArray.size<=sizeLine
  rw [List.size_toArray,List.length_take,List.length_drop,Array.length_toList]
  omega
 have hj:bq items.size items.size hi<=items.size:=E5 _ _ (Nat.le_refl _) hi
 obtain⟨os,hos,hcs,hds⟩:=id hs
 have hTs:s.TypeIs (.ref sl) "slice":=⟨os,hos,hcs⟩
 unfold getItem
 try with_reducible refine wpAny_holding ?_
 first | refine wpAny_bind (wpAny_pure ?_) | skip
 refine wpAny_bind (wpAny_sequenceKey ht.typeIs (by decide) ?_)
 refine wpAny_bind (wpAny_callSpecial?_slot (name:=Str.ofString "__getitem__") ht.typeIs PyProof.Rows.slot_tuple_getitem
  (wpAny_call_entry PyProof.Rows.slot_tuple_getitem ht.typeIs entry_tuple_getitem ?_ (args_tuple_getitem _ _)))
 show wpAny _ _ (Builtin.Tuple.tupleItemsOf (.ref t) >>= _) _ _ s
 refine wpAny_bind (tupleItemsOf_ ht ?_)
 refine wpAny_bind (wpAny_typeOf hTs ?_)
 rw [if_pos (by decide)]
 refine wpAny_bind (g0 hs pl pu ?_)
 have hno:¬((((bq items.size 0 lo:Nat):Int) == 0&&(1:Int) == 1&&(bq items.size items.size hi-bq items.size 0 lo) == items.size)=true):=by
  intro q
  rw [Bool.and_eq_true,Bool.and_eq_true] at q
  have q1:((bq items.size 0 lo:Nat):Int)=0:=eq_of_beq q.1.1
  have q2:bq items.size items.size hi-bq items.size 0 lo=items.size:=eq_of_beq q.2
  exact hw ⟨by omega,by omega⟩
 show wpAny _ _ (if(((bq items.size 0 lo:Nat):Int) == 0&&(1:Int) == 1&&(bq items.size items.size hi-bq items.size 0 lo) == items.size)=true then _ else _) _ _ s
 rw [if_neg hno,xZ]
 first
  | exact wpAny_bind (m:=Builtin.Tuple.tupleExact _) (wpAny_newObj_type (wpAny_pure ⟨_,rfl,wpAny_pure h⟩) htake)
  | exact wpAny_bind (m:=Builtin.Tuple.tupleExact _) (wpAny_newObj_type (wpAny_bind (wpAny_pure (wpAny_pure ⟨_,rfl,wpAny_pure h⟩))) htake)
  | exact wpAny_bind (wpAny_bind (m:=Builtin.Tuple.tupleExact _) (wpAny_newObj_type (wpAny_pure (wpAny_pure ⟨_,rfl,wpAny_pure h⟩)) htake))
  | exact wpAny_bind (wpAny_bind (m:=Builtin.Tuple.tupleExact _) (wpAny_newObj_type (wpAny_pure ⟨_,rfl,wpAny_pure h⟩) htake))
end
end HT
namespace L2
open PySem PySem.Spec PyProof.Rows
abbrev TO:=St->Hp->(Option Int->Hp->Prop)->Prop
def PO (X:Cx)(e:Option Expr)(t:TO):Prop :=
 ∀(pins:List (Addr×Obj)) (s:Shared) (σ:St) (H:Hp) (Q:Option Int->Hp->Prop),Inv X pins σ H s->t σ H Q ->
  wpAny (model X.prog X.w) X.A (evalPart e X.env) (fun u s'=>∃o H',Inv X pins σ H' s'/\IsPart u o/\Q o H') X.xe s
def AI:TO:=fun _ H Q=>Q none H
def GD (t:TE):TO:=fun σ H Q=>t σ H fun x H1=>∃i,x = .int i/\Q (some i) H1
section
variable {X:Cx}{e:Expr}{te:TE}{lo hi:Option Expr}{tl th:TO}{pos p2:Pos}
theorem BA:PO X none AI:=by
 intro pins s σ H Q I h
 rw [evalPart_none]
 exact wpAny_pure ⟨none,H,I,.none,h⟩
theorem Bo (h:PE X e te):PO X (some e) (GD te):=by
 intro pins s σ H Q I hw
 rw [evalPart_some]
 refine aU (h pins s σ H _ I hw) fun u s1 ⟨x,H1,I1,r1,q1⟩=>?_
 obtain⟨i,rfl,q⟩:=q1
 obtain⟨t,rfl⟩:=r1
 exact⟨some i,H1,I1,.int i t,q⟩
def kQ (X:Cx)(r:V->Option Int->Option Int->Hp->VK->Prop):Prop :=
 ∀(pins:List (Addr×Obj)) (s:Shared) (σ:St) (H:Hp) (x:V) (v vl vu:Value) (lo hi:Option Int) (sl:Addr) (Q:VK),Inv X pins σ H s->RelV x v->s.heap.IsSliceOf sl vl vu .none->IsPart vl lo->IsPart vu hi->r x lo hi H Q ->
  ∃T id,typeLookup (.type T) "__getitem__" = pure (some (.builtin id))/\s.TypeIs v T/\wpAny (model X.prog X.w) X.A (getItem v (.ref sl)) (EP X pins σ Q) X.xe s
theorem kQ.or {r r':V->Option Int->Option Int->Hp->VK->Prop}(h:kQ X r)(h':kQ X r'):kQ X (fun x lo hi H Q=>r x lo hi H Q\/r' x lo hi H Q):=by
 intro pins s σ H x v vl vu lo hi sl Q I rx hs pl pu q
 rcases q with q | q
 . exact h pins s σ H x v vl vu lo hi sl Q I rx hs pl pu q
 . exact h' pins s σ H x v vl vu lo hi sl Q I rx hs pl pu q
def KI (r:V->Option Int->Option Int->Hp->VK->Prop)(te:TE)(tl th:TO):TE:=fun σ H Q=>te σ H fun x H1=>tl σ H1 fun l H2=>th σ H2 fun u H3=>r x l u H3 Q
theorem yQ {r:V->Option Int->Option Int->Hp->VK->Prop}(hr:kQ X r)(he:PE X e te)(hl:PO X lo tl)(hu:PO X hi th):PE X (.Subscript e (.Slice lo hi none p2) pos) (KI r te tl th):=by
 intro pins s σ H Q I h
 refine Subscript_ (aU (he pins s σ H _ I h) fun v s1 ⟨x,H1,I1,r1,q1⟩=>?_)
 refine wpAny_Slice (aU (hl pins s1 σ H1 _ I1 q1) fun vl s2 ⟨l,H2,I2,pl,q2⟩=>aU (hu pins s2 σ H2 _ I2 q2) fun vu s3 ⟨u,H3,I3,pu,q3⟩=>?_)
 rw [evalPart_none]
 refine wpAny_pure ?_
 have I4:Inv X pins σ H3 { s3 with heap:=s3.heap.push { cls:=.type "slice",data:=.fields #[vl,vu,.none] } }:=I3.kept (t':=s3.toks) fun b ob q=>Heap.get?_push_of_some _ q
 obtain⟨T,id,hT,ht,hg⟩:=hr pins { s3 with heap:=s3.heap.push { cls:=.type "slice",data:=.fields #[vl,vu,.none] } } σ H3 x v vl vu l u s3.heap.objs.size Q I4 r1 (Heap.IsSliceOf.new ..) pl pu q3
 show wpAny (model X.prog X.w) X.A (subscriptTail e (.Slice lo hi none p2) v (.ref s3.heap.objs.size)) (EP X pins σ Q) X.xe { s3 with heap:=s3.heap.push { cls:=.type "slice",data:=.fields #[vl,vu,.none] } }
 exact tail_any (ops:=[.ref s3.heap.objs.size,v]) ht hT hg (by with_unfolding_all rfl)
def jW (xs:List V)(lo hi:Option Int):List V:=(xs.drop (HT.bq xs.length 0 lo)).take (HT.bq xs.length xs.length hi-HT.bq xs.length 0 lo)
theorem kK (xs:List V)(lo hi:Option Int):(jW xs lo hi).length<=xs.length:=by
 unfold jW
 rw [List.length_take,List.length_drop]
 omega
def Fe (K:PySem.W.Frag):V->Option Int->Option Int->Hp->VK->Prop:=fun x lo hi H Q=>∃a xs,x = .ref a/\dh K H a xs /\
 ¬(HT.bq xs.length 0 lo=0/\HT.bq xs.length xs.length hi=xs.length) /\ ∀p,H p=none->Q (.ref p) (upd H p (.tup (jW xs lo hi)))
theorem Ej:kQ X (Fe X.K):=by
 intro pins s σ H x v vl vu lo hi sl Q I rx hs pl pu h
 obtain⟨a,xs,rfl,hx,hw,q⟩:=h
 cases rx
 obtain⟨its,r,ht,hz⟩:=I.tuple hx
 have hlen:its.toArray.size=xs.length:=by rw [List.size_toArray];exact r.length.symm
 refine⟨"tuple",_,PyProof.Rows.slot_tuple_getitem.lookup,ht.typeIs,?_⟩
 refine HT.kI ht hs pl pu (by rw [hlen];exact hw) ?_ (by rw [hlen];exact hz)
 rw [hlen]
 refine⟨.ref s.heap.objs.size,_,I.laid (t':=s.toks) (o:=.tup (jW xs lo hi)) (fun b ob q=>Heap.get?_push_of_some _ q) (Nat.le_refl _) ?_,rfl,q _ (I.hok.fresh (Nat.le_refl _))⟩
 exact⟨Nat.le_trans (kK xs lo hi) hz,_,(r.drop (HT.bq xs.length 0 lo)).take (HT.bq xs.length xs.length hi-HT.bq xs.length 0 lo),dG.new _ _⟩
def F9 (K:PySem.W.Frag):R2:=fun x y H Q=>∃a b xs ys,x = .ref a/\y = .ref b/\dh K H a xs/\dh K H b ys/\xs ≠ []/\xs.length+ys.length<=sizeLine /\
 (ys = []->Q (.ref a) H)/\(ys ≠ []->∀p,H p=none->Q (.ref p) (upd H p (.tup (xs++ys))))
theorem Vals.nc {xs:List V}{us:List Value}(r:Vals xs us):us = [] ↔ xs = []:=by
 cases r with
 | nil=>simp
 | cons _ _=>simp
theorem zZ:bw X (binaryOp .Add) (F9 X.K):=by
 intro pins s σ H x y v u Q I rx ry h
 obtain⟨a,b,xs,ys,rfl,rfl,ha,hb,hx,hz,q1,q2⟩:=h
 cases rx
 cases ry
 obtain⟨its,r1,p1,_⟩:=I.tuple ha
 obtain⟨its2,r2,p2,_⟩:=I.tuple hb
 refine HT.Bv p1 p2 (fun z=>hx (r1.nc.mp z)) (fun z=>⟨.ref a,H,I,rfl,q1 (r2.nc.mp z)⟩) (fun z=>?_) (by rw [<- r1.length,<- r2.length];exact hz)
 refine⟨.ref s.heap.objs.size,_,I.laid (t':=s.toks) (o:=.tup (xs++ys)) (fun b ob q=>Heap.get?_push_of_some _ q) (Nat.le_refl _) ?_,rfl,q2 (fun w=>z (r2.nc.mpr w)) _ (I.hok.fresh (Nat.le_refl _))⟩
 exact⟨by rw [List.length_append];exact hz,_,r1.append r2,dG.new _ _⟩
end
def gY (n:Nat)(i:Int):Option Nat:=if 0<=i then(if i<n then some i.toNat else none) else if -(n:Int)<=i then some (i+n).toNat else none
def dz {α:Type}(xs:List α)(i:Int):Option α:=(gY xs.length i).bind fun j=>xs[j]?
theorem sj {n:Nat}{i:Int}{j:Nat}(h:gY n i=some j):seqIndex? i n=some j/\j<n /\ -(n:Int)<=i/\i<n:=by
 unfold gY at h
 by_cases h0:0<=i
 . rw [if_pos h0] at h
   by_cases h1:i<n
   . rw [if_pos h1] at h
     have e:i.toNat=j:=Option.some.inj h
     exact⟨by rw [seqIndex_of h0 h1,e],by omega,by omega,h1⟩
   . rw [if_neg h1] at h;cases h
 . rw [if_neg h0] at h
   by_cases h1:-(n:Int)<=i
   . rw [if_pos h1] at h
     have e:(i+n).toNat=j:=Option.some.inj h
     exact⟨by rw [seqIndex_neg (by omega) h1,e],by omega,h1,by omega⟩
   . rw [if_neg h1] at h;cases h
theorem nh {α:Type}{xs:List α}{i:Int}{v:α}(h:dz xs i=some v):∃j,seqIndex? i xs.length=some j/\xs[j]? = some v/\j<xs.length /\ -(xs.length:Int)<=i/\i<xs.length:=by
 unfold dz at h
 cases e:gY xs.length i with
 | none=>rw [e] at h;cases h
 | some j =>
  rw [e] at h
  obtain⟨h1,h2,h3,h4⟩:=sj e
  exact⟨j,h1,h,h2,h3,h4⟩
theorem Bq {α:Type}{xs:List α}{j:Nat}{v:α}(h:xs[j]? = some v):dz xs (j:Int)=some v:=by
 have hj:j<xs.length:=(List.getElem?_eq_some_iff.mp h).1
 have e:gY xs.length (j:Int)=some j:=by
  unfold gY
  rw [if_pos (by omega),if_pos (by omega)];simp
 unfold dz;rw [e];exact h
def mJ (b:Expr):Prop:=∀o i,subscripted b false o i=operate [o,i] (getItem o i)
def jL (X:Cx)(r:R2):Prop :=
 ∀(value slice:Expr) (pins:List (Addr×Obj)) (s:Shared) (σ:St) (H:Hp) (x y:V) (v u:Value) (Q:VK),Inv X pins σ H s->RelV x v->RelV y u->r x y H Q ->
  subscripted slice false v u=operate [v,u] (getItem v u)->wpAny (model X.prog X.w) X.A (subscriptTail value slice v u) (EP X pins σ Q) X.xe s
def GV (X:Cx)(id:String)(r:V->List V->Hp->VK->Prop):Prop :=
 ∀(pins:List (Addr×Obj)) (s:Shared) (σ:St) (H:Hp) (x:V) (xs:List V) (v:Value) (us:List Value) (Q:VK),Inv X pins σ H s->RelV x v->Vals xs us->r x xs H Q ->
  wpAny (model X.prog X.w) X.A (call (.builtin id) (v::us)) (EP X pins σ Q) X.xe s
section
variable {X:Cx}{a b:Expr}{ta tb:TE}{pos:Pos}
theorem jL.or {r r':R2}(h:jL X r)(h':jL X r'):jL X (fun x y H Q=>r x y H Q\/r' x y H Q):=by
 intro value slice pins s σ H x y v u Q I rx ry q hs
 rcases q with q | q
 . exact h value slice pins s σ H x y v u Q I rx ry q hs
 . exact h' value slice pins s σ H x y v u Q I rx ry q hs
theorem Gp {r:R2}(hr:jL X r)(ha:PE X a ta)(hb:PE X b tb)(hs:mJ b):PE X (.Subscript a b pos) (wc r ta tb):=by
 intro pins s σ H Q I h
 exact Subscript_ (x_ ha hb I h fun v u s2 x y H2 I2 rx ry q=>hr a b pins s2 σ H2 x y v u Q I2 rx ry q (hs _ _))
def B1 (K:PySem.W.Frag):R2:=fun x y H Q=>∃p xs i v,x = .ref p/\y = .int i/\cD K H p xs/\dz xs i=some v/\Q v H
def EZ (K:PySem.W.Frag):R2:=fun x y H Q=>∃p xs i v,x = .ref p/\y = .int i/\dh K H p xs/\dz xs i=some v/\Q v H
def D7:R2:=fun x y H Q=>∃z i c,x = .str z/\y = .int i/\z.length<=sizeLine/\dz z.cps.toList i=some c/\Q (.str ⟨#[c]⟩) H
theorem Ap:jL X (B1 X.K):=by
 intro value slice pins s σ H x y v u Q I rx ry h hs
 obtain⟨p,xs,i,z,rfl,rfl,hq,he,q⟩:=h
 cases rx
 obtain⟨t,rfl⟩:=ry
 obtain⟨its,r,pl,hz⟩:=I.list hq
 obtain⟨j,h1,h2,h3,h4,h5⟩:=nh he
 obtain⟨w,ew,rw'⟩:=r.get h2
 have hl:=r.length
 have hn:=iG
 have fin:EP X pins σ Q w s:=⟨z,H,I,rw',q⟩
 by_cases h0:0<=i
 . have hj:i.toNat=j:=by
    rw [seqIndex_of h0 h5] at h1
    exact Option.some.inj h1
   exact item_listR pl.isList h0 (by omega) (by rw [hj];simpa using ew) fin hs
 . have hj:(i+(its.toArray.size:Int)).toNat=j:=by
    rw [seqIndex_neg (by omega) h4] at h1
    rw [List.size_toArray,<- hl]
    exact Option.some.inj h1
   exact subscriptTail_builtinR (x:=w) pl.isList.typeIs slot_list_getitem.lookup
    (wpAny_getItem_list_neg (Q:=fun r s'=>r=w/\EP X pins σ Q r s') pl.isList (by omega) (by rw [List.size_toArray]<;>omega) (by omega) (by rw [hj];simpa using ew) ⟨rfl,fin⟩) hs
theorem BN:jL X (EZ X.K):=by
 intro value slice pins s σ H x y v u Q I rx ry h hs
 obtain⟨p,xs,i,z,rfl,rfl,hq,he,q⟩:=h
 cases rx
 obtain⟨t,rfl⟩:=ry
 obtain⟨its,r,pl,hz⟩:=I.tuple hq
 obtain⟨j,h1,h2,h3,h4,h5⟩:=nh he
 obtain⟨w,ew,rw'⟩:=r.get h2
 have hl:=r.length
 have hn:=iG
 have fin:EP X pins σ Q w s:=⟨z,H,I,rw',q⟩
 exact subscriptTail_builtinR (x:=w) pl.typeIs slot_tuple_getitem.lookup
  (getItem_tuple (j:=j) (Q:=fun r s'=>r=w/\EP X pins σ Q r s') pl (by omega) (by omega) (by rw [List.size_toArray,<- hl];exact h1) (by simpa using ew) ⟨rfl,fin⟩) hs
theorem Cw:jL X D7:=by
 intro value slice pins s σ H x y v u Q I rx ry h hs
 obtain⟨z,i,c,rfl,rfl,hz,he,q⟩:=h
 obtain⟨t,rfl⟩:=rx
 obtain⟨t',rfl⟩:=ry
 obtain⟨j,h1,h2,h3,h4,h5⟩:=nh he
 have hl:z.cps.toList.length=z.length:=by simp [Str.length]
 rw [hl] at h1 h4 h5
 have hn:=iG
 exact tail_any (typeIs_str s z t) slot_str_getitem.lookup (getItem_str (c:=c) (by
  have e1:decide (i < -(2 ^ 63:Int))=false:=decide_eq_false (by omega)
  have e2:decide (i>=2 ^ 63)=false:=decide_eq_false (by omega)
  rw [e1,e2,Bool.or_false]) (by rw [h1];simpa using h2) ⟨.str ⟨#[c]⟩,H,I.tok _,⟨_,rfl⟩,q⟩) hs
def K6 (K:PySem.W.Frag):R2:=fun x y H Q=>B1 K x y H Q\/EZ K x y H Q\/D7 x y H Q
theorem vm:jL X (K6 X.K):=Ap.or (BN.or Cw)
theorem uH (its:List Value)(n j:Nat)(u:Value):Obj.mapSeq (·.setIfInBounds j u) { cls:=.type "list",data:=.seq its.toArray n }={ cls:=.type "list",data:=.seq (its.set j u).toArray n }:=by
 simp [Obj.mapSeq]
theorem Inv.lst {pins:List (Addr×Obj)}{σ:St}{H:Hp}{s:Shared}{p:Addr}{xs:List V}(I:Inv X pins σ H s)(h:H p=some (.lst xs)) :
  ∃(its:List Value) (n:Nat),Vals xs its/\s.heap.get? p=some { cls:=.type "list",data:=.seq its.toArray n }/\xs.length<=sizeLine:=by
 obtain⟨z,its,n,r,e⟩:=I.hok p _ h
 exact⟨its,n,r,e,z⟩
theorem Inv.Eh {pins:List (Addr×Obj)}{σ:St}{H:Hp}{s:Shared}{p:Addr}{xs ys:List V}{its its':List Value}{n n':Nat}{f:Obj->Obj}(I:Inv X pins σ H s)(h:H p=some (.lst xs))
  (ho:s.heap.get? p=some { cls:=.type "list",data:=.seq its.toArray n }) (hf:f { cls:=.type "list",data:=.seq its.toArray n }={ cls:=.type "list",data:=.seq its'.toArray n' }) (r:Vals ys its') (hz:ys.length<=sizeLine) (t:Nat) :
  Inv X pins σ (upd H p (.lst ys)) { s with heap:=s.heap.update p f,toks:=t }:=by
 have e:(s.heap.update p f).get? p=some { cls:=.type "list",data:=.seq its'.toArray n' }:=by
  rw [Heap.get?_update_self f ho (by rw [hf]<;>rfl),hf]
 refine I.write (x:=p) (e:=p) (by rw [h];trivial) (.inl rfl) (fun b u hb q=>(Heap.get?_update_other _ _ (Ne.symm hb)).trans q) ⟨_,e⟩ ?_
 exact⟨hz,its',n',r,e⟩
def Gi:V->V->V->Hp->(Hp->Prop)->Prop:=fun o i v H Q=>∃p xs k j,o = .ref p/\i = .int k/\H p=some (.lst xs)/\gY xs.length k=some j/\Q (upd H p (.lst (xs.set j v)))
theorem set_list:x9 X Gi:=by
 intro pins s σ H o i v ov iv u Q I ro ri rv h
 obtain⟨p,xs,k,j,rfl,rfl,hp,hj,q⟩:=h
 cases ro
 obtain⟨t,rfl⟩:=ri
 obtain⟨its,n,r,ho,hz⟩:=I.lst hp
 obtain⟨h1,h2,h3,h4⟩:=sj hj
 have hl:=r.length
 have hn:=iG
 have I':Inv X pins σ (upd H p (.lst (xs.set j v))) { s with heap:=s.heap.update p (Obj.mapSeq (·.setIfInBounds j u)) } :=
   I.Eh hp ho (uH its n j u) (r.set rv j) (by rw [List.length_set];exact hz) s.toks
 by_cases h0:0<=k
 . have hk:k.toNat=j:=by
    rw [seqIndex_of h0 h4] at h1
    exact Option.some.inj h1
   exact PySem.W.ki_setAt ho h0 (by omega) (by rw [List.size_toArray,<- hl];exact h4) (by rw [hk];exact⟨_,I',q⟩)
 . have hk:(k+(its.toArray.size:Int)).toNat=j:=by
    rw [seqIndex_neg (by omega) h3] at h1
    rw [List.size_toArray,<- hl]
    exact Option.some.inj h1
   exact PySem.W.ki_setBack ho (by omega) (by rw [List.size_toArray,<- hl];exact h3) (by omega) (by rw [hk];exact⟨_,I',q⟩)
theorem oW (lo hi:Option Int)(n:Nat):(sliceBounds lo hi none n).1=((HT.bq n 0 lo:Nat):Int)/\(sliceBounds lo hi none n).2.1=((HT.bq n n hi:Nat):Int)/\(sliceBounds lo hi none n).2.2=1:=by
 refine⟨?_,?_,rfl⟩
 . cases lo with
   | none=>simp [sliceBounds,HT.bq]
   | some i =>
    simp only [sliceBounds,HT.bq,Option.getD_none,show(1:Int)>0 by decide,if_true]
    by_cases h:i<0
    . simp only [h,if_true]<;>omega
    . simp only [h,if_false]<;>omega
 . cases hi with
   | none=>simp [sliceBounds,HT.bq]
   | some i =>
    simp only [sliceBounds,HT.bq,Option.getD_none,show(1:Int)>0 by decide,if_true]
    by_cases h:i<0
    . simp only [h,if_true]<;>omega
    . simp only [h,if_false]<;>omega
theorem ow (its:List Value)(lo hi:Option Int):slicePick its.toArray lo hi none=((its.drop (HT.bq its.length 0 lo)).take (HT.bq its.length its.length hi-HT.bq its.length 0 lo)).toArray:=by
 obtain⟨h1,h2,h3⟩:=oW lo hi its.toArray.size
 unfold slicePick
 rw [h1,h2,h3]
 simp only [sliceRange_one,pick_run,List.size_toArray]<;>rfl
def Ew (K:PySem.W.Frag):V->Option Int->Option Int->Hp->VK->Prop:=fun x lo hi H Q=>∃a xs,x = .ref a/\cD K H a xs /\ ∀p,H p=none->Q (.ref p) (upd H p (.lst (jW xs lo hi)))
theorem Be:kQ X (Ew X.K):=by
 intro pins s σ H x v vl vu lo hi sl Q I rx hs pl pu h
 obtain⟨a,xs,rfl,hx,q⟩:=h
 cases rx
 obtain⟨its,r,ht,hz⟩:=I.list hx
 have hlen:=r.length
 refine⟨"list",_,slot_list_getitem.lookup,ht.isList.typeIs,?_⟩
 refine wpAny_getItem_list_slice ht.isList hs pl pu .none (by simp) ?_ (by rw [List.size_toArray]<;>omega)
 rw [ow,<- hlen]
 refine⟨.ref s.heap.objs.size,_,I.laid (t':=s.toks) (o:=.lst (jW xs lo hi)) (fun b ob q=>Heap.get?_push_of_some _ q) (Nat.le_refl _) ?_,rfl,q _ (I.hok.fresh (Nat.le_refl _))⟩
 exact⟨Nat.le_trans (kK xs lo hi) hz,_,0,(r.drop (HT.bq xs.length 0 lo)).take (HT.bq xs.length xs.length hi-HT.bq xs.length 0 lo),Heap.get?_push_size _ rfl⟩
def gF:V->Bool
 | .non=>true
 | .bl _=>true
 | .int _=>true
 | .str _=>true
 | _=>false
def nL:V->V->Bool
 | .non,.non=>true
 | .bl a,.bl b=>a == b
 | .bl a,.int b=>(if a then 1 else 0) == b
 | .int a,.bl b=>a == (if b then 1 else 0)
 | .int a,.int b=>a == b
 | .str a,.str b=>a == b
 | _,_=>false
theorem DN {A:Around}{s:Shared}{y x:V}{u v:Value}(ry:RelV y u)(rx:RelV x v)(fy:gF y=true)(fx:gF x=true):SeqAt.EqAt A s u v (nL y x):=by
 cases y with
 | non =>
  cases ry
  cases x with
  | non=>cases rx;exact SeqAt.EqAt.same _
  | bl b=>cases rx;exact SeqAt.EqAt.none_bool b
  | int b=>obtain⟨t,rfl⟩:=rx;exact SeqAt.EqAt.none_int b t
  | str b=>obtain⟨t,rfl⟩:=rx;exact SeqAt.EqAt.none_str b t
  | _=>exact absurd (show false=true from fx) Bool.false_ne_true
 | bl a =>
  cases ry
  cases x with
  | non=>cases rx;exact SeqAt.EqAt.bool_none a
  | bl b=>cases rx;exact SeqAt.EqAt.bool_bool a b
  | int b=>obtain⟨t,rfl⟩:=rx;exact SeqAt.EqAt.bool_int a b t
  | str b=>obtain⟨t,rfl⟩:=rx;exact SeqAt.EqAt.bool_str a b t
  | _=>exact absurd (show false=true from fx) Bool.false_ne_true
 | int a =>
  obtain⟨t',rfl⟩:=ry
  cases x with
  | non=>cases rx;exact SeqAt.EqAt.int_none a t'
  | bl b=>cases rx;exact SeqAt.EqAt.int_bool a t' b
  | int b=>obtain⟨t,rfl⟩:=rx;exact SeqAt.EqAt.int_int a t' b t
  | str b=>obtain⟨t,rfl⟩:=rx;exact SeqAt.EqAt.int_str a t' b t
  | _=>exact absurd (show false=true from fx) Bool.false_ne_true
 | str a =>
  obtain⟨t',rfl⟩:=ry
  cases x with
  | non=>cases rx;exact SeqAt.EqAt.str_none a t'
  | bl b=>cases rx;exact SeqAt.EqAt.str_bool a t' b
  | int b=>obtain⟨t,rfl⟩:=rx;exact SeqAt.EqAt.str_int a t' b t
  | str b=>obtain⟨t,rfl⟩:=rx;exact SeqAt.EqAt.str_str a t' b t
  | _=>exact absurd (show false=true from fx) Bool.false_ne_true
 | _=>exact absurd (show false=true from fy) Bool.false_ne_true
def zM (x:V)(u:Value):Bool:=match u with
 | .none=>nL .non x
 | .bool b=>nL (.bl b) x
 | .int i _=>nL (.int i) x
 | .str z _=>nL (.str z) x
 | _=>false
theorem wL {x y:V}{u:Value}(r:RelV y u)(f:gF y=true):zM x u=nL y x:=by
 cases y with
 | non=>cases r;rfl
 | bl b=>cases r;rfl
 | int i=>obtain⟨t,rfl⟩:=r;rfl
 | str z=>obtain⟨t,rfl⟩:=r;rfl
 | _=>exact absurd (show false=true from f) Bool.false_ne_true
theorem qA {A:Around}{s:Shared}{x:V}{v:Value}(rx:RelV x v)(fx:gF x=true):∀{xs:List V} {us:List Value},Vals xs us->xs.all gF=true->∀u∈us,SeqAt.EqAt A s u v (zM x u)
 | _,_,.nil,_=>fun u hu=>by cases hu
 | y::xs,u::us,.cons r t,f=>fun u' hu=>by
  rw [List.all_cons,Bool.and_eq_true] at f
  rcases List.mem_cons.mp hu with rfl | hu
  . rw [wL r f.1];exact DN r rx f.1 fx
  . exact qA rx fx t f.2 u' hu
theorem p7:b7 X (.builtin "len") (fun xs H Q=>∃p ys,xs = [.ref p]/\(cD X.K H p ys\/dh X.K H p ys)/\Q (.int ys.length) H):=by
 intro pins s σ H xs us Q I r h
 obtain⟨p,ys,rfl,hq,q⟩:=h
 obtain⟨u,rfl,rx⟩:=vals1 r
 cases rx
 have hn:=iG
 rcases hq with hq | hq
 . obtain⟨its,r',pl,hz⟩:=I.list hq
   have hlen:=r'.length
   exact Calls.call_len_list pl.isList (by simp only [List.size_toArray]<;>omega) ⟨.int ys.length,H,I.tok _,⟨s.toks+1,by rw [List.size_toArray,hlen]⟩,q⟩
 . obtain⟨its,r',pl,hz⟩:=I.tuple hq
   have hlen:=r'.length
   exact len_tuple pl (by simp only [List.size_toArray]<;>omega) ⟨.int ys.length,H,I.tok _,⟨s.toks+1,by rw [List.size_toArray,hlen]⟩,q⟩
theorem pW:b7 X (.type "list") (fun xs H Q=>∃p ys,xs = [.ref p]/\(cD X.K H p ys\/dh X.K H p ys) /\ ∀l,H l=none->Q (.ref l) (upd H l (.lst ys))):=by
 intro pins s σ H xs us Q I r h
 obtain⟨p,ys,rfl,hq,q⟩:=h
 obtain⟨u,rfl,rx⟩:=vals1 r
 cases rx
 have fin:∀(its:List Value),Vals ys its->ys.length<=sizeLine->∀(h':Heap) (c':Nat),(∀b o',s.heap.get? b=some o'->h'.get? b=some o') ->
    h'.get? s.heap.objs.size=some { cls:=.type "list",dict:=none,data:=.seq its.toArray c',slots:=#[] }->EP X pins σ Q (.ref s.heap.objs.size) { s with heap:=h' }:=fun its r' hz h' c' kp e =>
   ⟨.ref s.heap.objs.size,_,I.laid (t':=s.toks) kp (Nat.le_refl _) (show cz X.prog X.w _ h' _ (.lst ys) from⟨hz,its,c',r',e⟩),rfl,q _ (I.hok.fresh (Nat.le_refl _))⟩
 rcases hq with hq | hq
 . obtain⟨its,r',pl,hz⟩:=I.list hq
   have hlen:=r'.length
   obtain⟨o,ho,hc,n,hd⟩:=pl.isList
   exact call_list_seq p (.inl rfl) ho hc hd (fun h' c' kp e=>fin its r' hz h' c' kp e) (by simp only [List.size_toArray]<;>omega)
 . obtain⟨its,r',pl,hz⟩:=I.tuple hq
   have hlen:=r'.length
   obtain⟨o,ho,hc,n,hd⟩:=pl
   exact call_list_seq p (.inr rfl) ho hc hd (fun h' c' kp e=>fin its r' hz h' c' kp e) (by simp only [List.size_toArray]<;>omega)
theorem jm:b7 X (.type "tuple") (fun xs H Q=>∃p ys,xs = [.ref p]/\((cD X.K H p ys /\ ∀l,H l=none->Q (.ref l) (upd H l (.tup ys)))\/(dh X.K H p ys/\Q (.ref p) H))):=by
 intro pins s σ H xs us Q I r h
 obtain⟨p,ys,rfl,h⟩:=h
 obtain⟨u,rfl,rx⟩:=vals1 r
 cases rx
 rcases h with⟨hq,q⟩ | ⟨hq,q⟩
 . obtain⟨its,r',pl,hz⟩:=I.list hq
   have hlen:=r'.length
   refine call_tuple_list pl.isList (fun h' kp=>?_) (by simp only [List.size_toArray]<;>omega)
   have I1:Inv X pins σ H { s with heap:=h' }:=I.kept (t':=s.toks) kp
   have I2:Inv X pins σ (upd H h'.objs.size (.tup ys)) { s with heap:=h'.push { cls:=.type "tuple",data:=.seq its.toArray } } :=
    I1.laid (t':=s.toks) (fun b o e=>Heap.get?_push_of_some _ e) (Nat.le_refl _) (show cz X.prog X.w _ _ _ (.tup ys) from⟨hz,its,r',dG.new _ _⟩)
   exact⟨.ref h'.objs.size,_,I2,rfl,q _ (I1.hok.fresh (Nat.le_refl _))⟩
 . obtain⟨its,r',pl,hz⟩:=I.tuple hq
   exact call_tuple_same pl ⟨.ref p,H,I,rfl,q⟩
def Lc (K:PySem.W.Frag)(T:String)(x:V)(H:Hp):Prop:=match x with
 | .str _=>T = "str"
 | .int _=>T = "int"
 | .ref p=>(T = "list" /\ ∃xs,cD K H p xs)\/(T = "tuple" /\ ∃o,K.lookup p=some o/\o.cls = .type "tuple" /\ o.dict=none) \/
  (T = "dict" /\ ((∃kvs,H p=some (.dK kvs)) \/ ∃kvs,H p=some (.dT kvs)))\/(T = "set" /\ ∃S n,H p=some (.set S n))
 | _=>False
theorem wq {pins:List (Addr×Obj)}{σ:St}{H:Hp}{s:Shared}{T:String}{x:V}{v:Value}(I:Inv X pins σ H s)(r:RelV x v)(ty:Lc X.K T x H) :
  s.TypeIs v T /\ ∀a,v = .ref a->∃ob,s.heap.get? a=some ob/\ob.dict=none:=by
 cases x with
 | str z =>
  obtain⟨t,rfl⟩:=r
  cases (show T = "str" from ty)
  exact⟨typeIs_str s z t,fun _ e=>nomatch e⟩
 | int i =>
  obtain⟨t,rfl⟩:=r
  cases (show T = "int" from ty)
  exact⟨typeIs_int s i t,fun _ e=>nomatch e⟩
 | ref p =>
  cases r
  rcases ty with⟨rfl,xs,hq⟩ | ⟨rfl,o,hk,hc,hd⟩ | ⟨rfl,hk⟩ | ⟨rfl,S,n,hk⟩
  . obtain⟨its,_,pl,_⟩:=I.list hq
    refine⟨pl.isList.typeIs,fun a e=>?_⟩
    cases e
    obtain⟨o,n,e,c,hd,_⟩:=pl
    exact⟨o,e,hd⟩
  . refine⟨⟨o,I.gB p o hk,hc⟩,fun a e=>?_⟩
    cases e
    exact⟨o,I.gB _ o hk,hd⟩
  . have z:∃o,s.heap.get? p=some o/\o.ExactDict:=by
     rcases hk with⟨kvs,hk⟩ | ⟨kvs,hk⟩
     . obtain⟨_,_,_,_,o,_,_,e,ex,_⟩:=I.hok p _ hk
       exact⟨o,e,ex⟩
     . obtain⟨_,_,_,_,o,_,_,e,ex,_⟩:=I.hok p _ hk
       exact⟨o,e,ex⟩
    obtain⟨o,e,ex⟩:=z
    refine⟨⟨o,e,ex.1⟩,fun a e2=>?_⟩
    cases e2
    exact⟨o,e,ex.2.1⟩
  . obtain⟨o,_,_,_,e,ex,_⟩:=I.hok p _ hk
    refine⟨⟨o,e,ex.1⟩,fun a e2=>?_⟩
    cases e2
    exact⟨o,e,ex.2.1⟩
 | _=>exact False.elim ty
variable {o e:Expr}{es:List Expr}{to:TE}{t:TA}{name:Str}{apos cpos:Pos}{T id:String}{r:V->List V->Hp->VK->Prop}
end
def B3 (X:Cx)(id:String)(r:V->List V->Hp->VK->Prop):Prop :=
 ∀(pins:List (Addr×Obj)) (s:Shared) (σ:St) (H:Hp) (x:V) (xs:List V) (v:Value) (us:List Value) (Q:VK),Inv X pins σ H s->RelV x v->Vals xs us->r x xs H Q ->
  wpAny (model X.prog X.w) X.A (call (.builtin id) (v::us)) (EP X pins σ Q) X.xe s
theorem Vals.one:∀{x:V} {us:List Value},Vals [x] us->∃u,us = [u]/\RelV x u
 | _,_,.cons r .nil=>⟨_,rfl,r⟩
theorem Vals.zero:∀{us:List Value},Vals [] us->us = []
 | _,.nil=>rfl
theorem Vals.dropLast {xs:List V}{us:List Value}(h:Vals xs us):Vals xs.dropLast us.dropLast:=by
 induction h with
 | nil=>exact .nil
 | cons r t ih =>
  cases t with
  | nil=>exact .nil
  | cons q t'=>exact .cons r ih
theorem Vals.eraseIdx:∀{xs:List V} {us:List Value} (i:Nat),Vals xs us->Vals (xs.eraseIdx i) (us.eraseIdx i)
 | _,_,_,.nil=>.nil
 | _,_,0,.cons _ t=>t
 | _,_,i+1,.cons r t=>.cons r (Vals.eraseIdx i t)
theorem Vals.rep {xs:List V}{us:List Value}(h:Vals xs us):∀k:Nat,Vals (List.replicate k xs).flatten (List.replicate k us).flatten
 | 0=>.nil
 | k+1=>by
  rw [List.replicate_succ,List.replicate_succ,List.flatten_cons,List.flatten_cons]
  exact Vals.append h (Vals.rep h k)
theorem uw {α:Type}(l:List α):l.eraseIdx (l.length-1)=l.dropLast:=by
 induction l with
 | nil=>rfl
 | cons a r ih =>
  cases r with
  | nil=>rfl
  | cons b r =>
   have e:(a::b::r).length-1=((b::r).length-1)+1:=by
    have h1:(a::b::r).length=r.length+2:=rfl
    have h2:(b::r).length=r.length+1:=rfl
    omega
   rw [e,List.eraseIdx_cons_succ,ih]
   all_goals rfl
theorem nM {α:Type}:∀(l:List α) (i:Nat),(l.eraseIdx i).length<=l.length
 | [],_=>Nat.le_refl _
 | _::_,0=>Nat.le_succ _
 | _::r,i+1=>Nat.succ_le_succ (nM r i)
theorem foldl_rep (its:List Value):∀(k:Nat) (acc:List Value),
  List.foldl (fun x1 x2=>x1++x2) acc.toArray (List.replicate k its.toArray)=(acc++(List.replicate k its).flatten).toArray
 | 0,acc=>by simp
 | k+1,acc=>by
  have e:acc.toArray++its.toArray=(acc++its).toArray:=by simp
  have e2:(acc++its)++(List.replicate k its).flatten=acc++(List.replicate (k+1) its).flatten:=by
   rw [List.replicate_succ,List.flatten_cons,List.append_assoc]
  rw [<- e2,<- foldl_rep its k (acc++its),<- e,List.replicate_succ,List.foldl_cons]
section
variable {X:Cx}{pins:List (Addr×Obj)}{σ:St}{H:Hp}{s:Shared}{l b:Addr}{xs ys zs:List V}
theorem Inv.yN {its its':List Value}{n:Nat}{f:Array Value->Array Value}{t':Nat}(I:Inv X pins σ H s)(hH:H l=some (.lst xs))
  (e:s.heap.get? l=some { cls:=.type "list",data:=.seq its.toArray n }) (hf:f its.toArray=its'.toArray) (hv:Vals ys its') (hz:ys.length<=sizeLine) :
  Inv X pins σ (upd H l (.lst ys)) { s with heap:=s.heap.update l (Obj.mapSeq f),toks:=t' }:=by
 have q:=PySem.IsL.update e f
 rw [hf] at q
 refine I.write (x:=l) (e:=l) (by rw [hH];exact trivial) (.inl rfl) (fun b' u hb hu=>(Heap.get?_update_other s.heap (Obj.mapSeq f) (Ne.symm hb)).trans hu) ⟨_,q⟩ ?_
 exact⟨hz,its',_,hv,q⟩
theorem Inv.Jc {its:List Value}{t':Nat}(I:Inv X pins σ H s)(hv:Vals ys its)(hz:ys.length<=sizeLine) :
  Inv X pins σ (upd H s.heap.objs.size (.lst ys)) { s with heap:=s.heap.push { cls:=.type "list",data:=.seq its.toArray },toks:=t' } :=
 I.laid (fun _ _ q=>Heap.get?_push_of_some _ q) (Nat.le_refl _) ⟨hz,its,0,hv,Heap.get?_push_size _ rfl⟩
theorem Inv.fresh (I:Inv X pins σ H s):H s.heap.objs.size=none:=I.hok.fresh (Nat.le_refl _)
theorem Inv.yU (I:Inv X pins σ H s)(hH:H l=some (.lst xs)):xs.length<=sizeLine /\ ∃(its:List Value) (n:Nat),Vals xs its/\xs.length=its.length/\s.heap.get? l=some { cls:=.type "list",data:=.seq its.toArray n }:=by
 obtain⟨z,its,n,r,e⟩:=I.hok l _ hH
 exact⟨z,its,n,r,r.length,e⟩
end
section
variable {X:Cx}
def BD:V->List V->Hp->VK->Prop:=fun x vs H Q=>∃l xs y,x = .ref l/\vs = [y]/\H l=some (.lst xs)/\xs.length<sizeLine/\Q .non (upd H l (.lst (xs ++ [y])))
theorem iq:B3 X "list.append" BD:=by
 intro pins s σ H x vs v us Q I rx rv h
 obtain⟨l,xs,y,rfl,rfl,hH,hz,q⟩:=h
 cases rx
 obtain⟨u,rfl,ru⟩:=rv.one
 obtain⟨z,its,n,r,hl,e⟩:=I.yU hH
 refine call_meets F.slot_list_append ⟨_,e,rfl⟩ F.entry_list_append (F.args_list_append_2 _ _) (PySem.list_append l its.toArray n u (by rw [List.size_toArray];omega)) ⟨e,?_⟩
 refine⟨.non,_,I.yN (its':=its ++ [u]) hH e (by simp) (r.append (.cons ru .nil)) ?_,rfl,q⟩
 rw [List.length_append,List.length_singleton]
 omega
def HK:V->List V->Hp->VK->Prop:=fun x vs H Q=>∃l xs y,x = .ref l/\vs = []/\H l=some (.lst xs)/\xs[xs.length-1]? = some y/\Q y (upd H l (.lst xs.dropLast))
theorem CW:B3 X "list.pop" HK:=by
 intro pins s σ H x vs v us Q I rx rv h
 obtain⟨l,xs,y,rfl,rfl,hH,hy,q⟩:=h
 cases rx
 have hus:=rv.zero
 subst hus
 obtain⟨z,its,n,r,hl,e⟩:=I.yU hH
 obtain⟨u,hu,ru⟩:=r.get hy
 have hy':its.toArray[its.toArray.size-1]? = some u:=by
   show its.toArray[its.length-1]? = some u
   rw [<- Array.getElem?_toList,<- hl]
   exact hu
 refine call_meets F.slot_list_pop ⟨_,e,rfl⟩ F.entry_list_pop (F.args_list_pop_1 _) (MeetsSeq.list_pop_last l its.toArray n u hy' (by rw [List.size_toArray];omega)) ⟨e,?_⟩
 refine⟨y,_,I.yN (its':=its.dropLast) hH e ?_ r.dropLast ?_,ru,q⟩
 . show its.toArray.eraseIdxIfInBounds (its.toArray.size-1)=its.dropLast.toArray
   rw [List.size_toArray,List.eraseIdxIfInBounds_toArray,uw]
 . rw [List.length_dropLast]
   omega
def C7:V->List V->Hp->VK->Prop:=fun x vs H Q=>∃l xs i k y,x = .ref l/\vs = [.int i]/\H l=some (.lst xs) /\ -(2 ^ 63)<=i/\i<2 ^ 63/\seqIndex? i xs.length=some k/\xs[k]? = some y/\Q y (upd H l (.lst (xs.eraseIdx k)))
theorem xg:B3 X "list.pop" C7:=by
 intro pins s σ H x vs v us Q I rx rv h
 obtain⟨l,xs,i,k,y,rfl,rfl,hH,h1,h2,hk,hy,q⟩:=h
 cases rx
 obtain⟨u,rfl,ru⟩:=rv.one
 obtain⟨t,rfl⟩:=ru
 obtain⟨z,its,n,r,hl,e⟩:=I.yU hH
 obtain⟨w,hw,rw'⟩:=r.get hy
 refine call_meets F.slot_list_pop ⟨_,e,rfl⟩ F.entry_list_pop (F.args_list_pop_2 _ _)
   (MeetsSeq.list_pop_at l its.toArray n i t k w (fitsIndex_both h1 h2) (by rw [List.size_toArray,<- hl];exact hk) (by rw [<- Array.getElem?_toList];exact hw) (by rw [List.size_toArray];omega)) ⟨e,?_⟩
 refine⟨y,_,I.yN (its':=its.eraseIdx k) hH e ?_ (r.eraseIdx k) ?_,rw',q⟩
 . show its.toArray.eraseIdxIfInBounds k=(its.eraseIdx k).toArray
   rw [List.eraseIdxIfInBounds_toArray]
 . have:=nM xs k
   omega
theorem len_rep {α:Type}(xs:List α)(k:Nat):(List.replicate k xs).flatten.length=k*xs.length:=by
 induction k with
 | zero=>simp
 | succ k ih=>rw [List.replicate_succ,List.flatten_cons,List.length_append,ih,Nat.succ_mul,Nat.add_comm]
end
end L2
namespace wR
open PySem PySem.W PySem.Calls PyProof.Rows
theorem lV {P:Params}{h:Heap}:∀(ns:List Int) (vs:List Value),WellAll P h vs (ns.map WData.int)->IntsAre vs ns:=by
 intro ns
 induction ns with
 | nil =>
  intro vs w
  rw [List.map_nil] at w
  cases w
  exact .nil
 | cons n ns ih =>
  intro vs w
  rw [List.map_cons] at w
  cases w with
  | cons a b =>
   cases a
   exact .cons _ _ (ih _ b)
theorem va {l:OpenLaw}{n:Nat}(hn:l.most=some n){P:Params}{h:Heap}{args:List WData}{vals:List Value}
  (hpre:l.row.toRowW.claim.pre args=true) (hwl:WellAll P h vals args) :
  ∃a vs ns,vals = [Value.ref a]/\args = [WData.list (ns.map WData.int)]/\h.get? a=some { cls:=.type "list",data:=.seq vs.toArray }/\IntsAre vs ns/\ns.length<=n:=by
 have hsh:WShape.hasAll [] args [.list .int]=true:=(pre_splitW hpre).1
 have hc:l.pre.holds [] { args:=args }=true:=(pre_splitW hpre).2
 obtain⟨d,r,rfl,h1,h2⟩:=hasAllW_cons hsh
 obtain rfl:=hasAllW_nil h2
 obtain⟨xs,rfl,h3⟩:=hasW_list h1
 obtain⟨ns,rfl⟩:=items_int h3
 have hlen:ns.length<=n:=by
  unfold OpenLaw.pre at hc
  have h4:(WTm.not (.lt (.lit (.int (n:Int))) (.len (.arg 0)))).holds [] { args:=[.list (ns.map .int)] }=true:=by
   have h4:=(holds_andW hc).1
   rw [hn] at h4
   exact h4
  have h5:=condW_of h4 (w_not (w_lt w_lit (w_len_list (w_arg rfl))))
  rw [List.length_map] at h5
  refine Nat.le_of_not_lt fun q=>?_
  have q':(n:Int)<((ns.length:Nat):Int):=by omega
  first
   | (rw [decide_eq_true q'] at h5;exact absurd h5 (by decide))
   | (simp at h5;omega)
 cases hwl with
 | cons w1 w2 =>
  cases w2
  cases w1 with
  | list ho hall=>exact⟨_,_,ns,rfl,rfl,ho,lV ns _ hall,hlen⟩
theorem wG (l:OpenLaw)(args:List WData):l.row.toRowW.claim.post args (.bool true) args=true :=
 postW_of (r:=l.row.toRowW) (X:=(true == true))
  (show WShape.has [] (.bool true) .bool=true by first | rfl | decide | simp [WShape.has,WShape.arms,WShape.armsAll])
  (show(WTm.eq .res (.lit (.bool true))).value [] { args:=args,res:=some (.bool true),after:=args }=some (.bool (true == true)) from w_eq_bool (w_res rfl) w_lit) rfl
theorem rg {l:OpenLaw}{n:Nat}{q:Program}{loose:List Str}{XP:(Str->Option Value)->Heap->Prop}{YP:World->Heap->Prop}{d:DefRec}
  (hn:l.most=some n) (hdf:d.params.defaults = [])
  (call:∀(w:World) (s₀ s₁:Shared) (mg mb:Str->Option Value) (fa:Addr) (o:Obj) (pm cd doc:Value) (a:Addr) (vs:List Value) (ns:List Int),
   Ground q loose [] XP w s₀ mg mb s₁.heap->YP w s₁.heap ->
   s₁.heap.get? fa=some o->o.data = .func (docDef d.name d.params d.body d.scope pm cd doc)->s₁.heap.CodeRec cd d.name->mg d.name=some (.ref fa) ->
   s₁.heap.get? a=some { cls:=.type "list",data:=.seq vs.toArray }->IntsAre vs ns->ns.length<=n->s₁.gens = #[] ->
   codeAny (model l.prog w) callerA (.call (.ref fa) ⟨[.ref a],[]⟩) (fun r s'=>r = .ok (.ret (.bool true))/\OldK s₁.heap s'.heap/\s'.os=s₁.os/\AllBare s'.gens) s₁) :
  WalkO q loose XP YP l.row.toRowW d [] (fun f vs=>PySem.call f vs):=by
 intro w s₀ s₁ mg mb G Y fa o pm cd doc dV kV ho hd hcd hD hmg hg args vals as hpre hlay hrd hwl hlo
 obtain rfl:dV = .none:=Dflts.none hD hdf
 obtain rfl:kV = .none:=Dflts.noKw hD
 obtain⟨a,vs,ns,rfl,rfl,hobj,hints,hlen⟩:=va hn hpre hwl
 refine enter_call (codeAny_mono (call w s₀ s₁ mg mb fa o pm cd doc a vs ns G Y ho (fd_plain hd) hcd hmg hobj hints hlen hg) fun r s' hq=>?_)
 obtain⟨rfl,h2,h3,h4⟩:=hq
 exact⟨.inl ⟨.bool true,.bool true,[],rfl,fun _=>rfl,.bool true,wG l _,fun _=>⟨List.Pairwise.nil,fun _ hm=>(nomatch hm)⟩⟩,h2,h3,h4⟩
end wR
namespace L2
open PySem PySem.Spec PyProof.Rows
theorem fZ:∀{vs:List Value} {ns:List Int},IntsAre vs ns->Vals (ns.map V.int) vs
 | _,_,.nil=>.nil
 | _,_,.cons n t h=>.cons ⟨t,rfl⟩ (fZ h)
def yr (H:Hp):Prop:=∀b,H b=none \/ ∃o xs,H b=some (.frz o (.lst xs))
theorem yh {P:Program}{w:World}{K:PySem.W.Frag}{mg mb:Str->Option Value}{CX:js}{k:Nat}{fa a:Addr}{fd:FuncData}{x:Str}{sp:Sp}{s₁:Shared}{vs:List Value}{ns:List Int}
  (KX:K.In s₁.heap) (hns:s₁.heap.Ns mainGlobals mg) (hb:s₁.heap.Ns builtinsNs mb) (hbb:∀x:Str,x ≠ "__name__"->mb x=bootBuiltins x) (hlim:s₁.heap.NoLimit) (hg:s₁.gens = #[])
  (ha:s₁.heap.get? a=some { cls:=.type "list",data:=.seq vs.toArray }) (hi:IntsAre vs ns) (hl:ns.length<=sizeLine) (hr:aC k callerA)
  (F:∀base:Heap,K.In base->base.Ns mainGlobals mg->cV P w K mg base CX k fa fd [x] sp) (hbind:∀(s:Shared) (u:Value),BindsTo s fd ⟨[u],[]⟩ [(x,u)])
  (hsp:∀H:Hp,yr H->cD K H a (ns.map V.int)->sp [.ref a] H (fun v _=>v = .bl true) fun _ _ _=>False)
  (hCX:∀H e s',CX [] H s₁ (fun _ _ _=>False) e s'->False) :
  codeAny (model P w) callerA (.call (.ref fa) ⟨[.ref a],[]⟩) (fun r s'=>r = .ok (.ret (.bool true))/\OldK s₁.heap s'.heap/\s'.os=s₁.os/\AllBare s'.gens) s₁:=by
 have rv:=fZ hi
 have lenV:=hi.length
 have core:∀H:Hp,yr H->cD K H a (ns.map V.int)->dU P w H s₁.heap->(∀b,H b≠none->b=a)->(H a≠none->K.lookup a=none) ->
    codeAny (model P w) callerA (.call (.ref fa) ⟨[.ref a],[]⟩) (fun r s'=>r = .ok (.ret (.bool true))/\OldK s₁.heap s'.heap/\s'.os=s₁.os/\AllBare s'.gens) s₁:=by
  intro H hO hS hok hA hK
  have base_of:∀{b:Addr} {o:Obj},s₁.heap.get? b=some o->H b=none->(jl s₁.heap H).get? b=some o:=fun e n=>xP e n
  have noA:∀{b:Addr} {o:Obj} {es:Array DictEntry} {ep:Nat},s₁.heap.get? b=some o->o.data = .dict es ep->H b=none:=fun {b o es ep} e d=>by
    cases q:H b with
    | none=>rfl
    | some u =>
      have e':b=a:=hA b (by rw [q];simp)
      subst e'
      rw [ha] at e;cases e
      have d':Data.seq vs.toArray _=Data.dict es ep:=d
      cases d'
  have nsK:∀{b:Addr} {m:Str->Option Value},s₁.heap.Ns b m->(jl s₁.heap H).Ns b m:=fun {b m} ⟨o,es,ep,e,d,r⟩=>⟨o,es,ep,base_of e (noA e d),d,r⟩
  have hKb:K.In (jl s₁.heap H):=fun b o e=>base_of (KX b o e) (by
    cases q:H b with
    | none=>rfl
    | some u =>
      have e':b=a:=hA b (by rw [q];simp)
      subst e'
      rw [hK (by rw [q];simp)] at e;cases e)
  have hM:Mod K mg (jl s₁.heap H):=⟨hKb,nsK hns,⟨mb,nsK hb,hbb⟩,let⟨mc,h1,h2⟩:=hlim;⟨mc,nsK h1,h2⟩⟩
  have e0:uc P w K mg (jl s₁.heap H) callerA [] s₁ H:=⟨rfl,hM,fun b o e=>Bb e,Nat.le_of_eq (vX _ _),trivial,fun b hb=>absurd (show b∈([]:List Addr) from hb) (by simp),hok,.of_eq hg⟩
  refine codeAny_mono ((F _ hKb (nsK hns)).run callerA [] s₁ H ⟨[.ref a],[]⟩ [.ref a] [.ref a] _ _ hr e0 (hbind s₁ (.ref a)) (.cons rfl .nil) (hsp H hO hS)) fun r s' h=>?_
  cases r with
  | error e=>exact(hCX H e s' h).elim
  | ok fl =>
    cases fl with
    | next=>exact False.elim h
    | brk=>exact False.elim h
    | cont=>exact False.elim h
    | ret u =>
      obtain⟨v,H',os,bare,un,hok',r',q⟩:=h
      have q':v = .bl true:=q
      subst q'
      obtain rfl:u=Value.bool true:=r'
      refine⟨rfl,OldK.of_keep fun b o e=>?_,os,bare⟩
      cases q:H b with
      | none=>exact un.keep b o e q (by intro z;exact absurd (show b∈([]:List Addr) from z) (by simp)) (by simp)
      | some u =>
       rcases hO b with z | ⟨ob,xs,z⟩
       . rw [q] at z;cases z
       . have z2:=un.frzs b ob _ z
         obtain⟨e1,_⟩:=hok b _ z
         obtain⟨e2,_⟩:=hok' b _ z2
         rw [e] at e1;cases e1
         exact e2
 cases hk:K.lookup a with
 | some o =>
  have e:=KX a o hk
  rw [ha] at e
  cases e
  refine core (fun _=>none) (fun _=>.inl rfl) (.inr ⟨_,vs.toArray,_,hk,rfl,rfl,rfl,by rw [List.size_toArray,lenV];exact hl,by simpa using rv⟩) (fun b u z=>by have z':(none:Option HO)=some u:=z;cases z') (fun b z=>absurd rfl z) fun z=>absurd rfl z
 | none =>
  refine core (fun b=>if b=a then some (.frz { cls:=.type "list",data:=.seq vs.toArray } (.lst (ns.map V.int))) else none) (fun b=>?_) (.inl (.inr ⟨{ cls:=.type "list",data:=.seq vs.toArray },if_pos rfl⟩)) (fun b u z=>?_) (fun b z=>?_) fun _=>hk
  . by_cases hb:b=a
    . exact .inr ⟨_,_,if_pos hb⟩
    . exact .inl (if_neg hb)
  . by_cases hb:b=a
    . have z':=(if_pos hb).symm.trans z
      cases z'
      subst hb
      exact⟨ha,by rw [List.length_map];exact hl,vs,_,rv,ha⟩
    . have z':=(if_neg hb).symm.trans z
      cases z'
  . by_cases hb:b=a
    . exact hb
    . exact absurd (if_neg hb) z
theorem Bz {l:PySem.W.OpenLaw}{n k:Nat}{q:Program}{loose:List Str}{XP:(Str->Option Value)->Heap->Prop}{YP:World->Heap->Prop}{d:DefRec}{K:Params->PySem.W.Frag}{CX:World->js}{sp:World->Sp}{x:Str}
  (hn:l.most=some n) (hn2:n<=sizeLine) (hdf:d.params.defaults = []) (hr:aC k callerA)
  (hY:∀(w:World) (h:Heap),YP w h->(K w.params).In h)
  (F:∀(w:World) (mg:Str->Option Value) (fa:Addr) (h:Heap),(K w.params).In h->h.Ns mainGlobals mg->mg d.name=some (.ref fa) ->
   ∃fd:FuncData,(∀(s:Shared) (u:Value),BindsTo s fd ⟨[u],[]⟩ [(x,u)]) /\
    ∀base:Heap,(K w.params).In base->base.Ns mainGlobals mg->cV l.prog w (K w.params) mg base (CX w) k fa fd [x] (sp w))
  (hsp:∀(w:World) (H:Hp) (a:Addr) (ns:List Int),ns.length<=n->yr H->cD (K w.params) H a (ns.map V.int)->sp w [.ref a] H (fun v _=>v = .bl true) fun _ _ _=>False)
  (hCX:∀(w:World) (H:Hp) (s:Shared) (e:Value) (s':Shared),CX w [] H s (fun _ _ _=>False) e s'->False) :
  PySem.W.WalkO q loose XP YP l.row.toRowW d [] (fun f vs=>PySem.call f vs):=by
 refine wR.rg hn hdf fun w s₀ s₁ mg mb fa o pm cd doc a vs ns G Y ho hd hcd hmg hobj hints hlen hg=>?_
 have KX:=hY w _ Y
 obtain⟨fd,hb,hF⟩:=F w mg fa _ KX G.T.g hmg
 exact yh KX G.T.g G.T.b G.T.builtins G.T.nolimit hg hobj hints (Nat.le_trans hlen hn2) hr hF hb (fun H hO hS=>hsp w H a ns hlen hO hS) fun H e s'=>hCX w H s₁ e s'
def gP (s:Stmt):Arguments:=match s with
 | .FunctionDef _ a _ _ _ _ _ _ _ _=>a
 | _=>{ posonlyargs:=[],args:=[],vararg:=none,kwonlyargs:=[],kw_defaults:=[],kwarg:=none,defaults:=[] }
def dI (s:Stmt):List Stmt:=match s with
 | .FunctionDef _ _ b _ _ _ _ _ _ _=>b
 | _=>[]
def bz (s:Stmt):Scope:=match s with
 | .FunctionDef _ _ _ _ _ _ sc _ _ _=>sc
 | _=>{ kind:=.function,names:=[],isGenerator:=false,isCoroutine:=false }
abbrev gC:js:=fun _ _ _ _ _ _=>False
abbrev E0:XK:=fun _ _ _=>False
theorem zp {X:Cx}:Passes gC X E0:=fun _ _ _ _ _ _ _ h=>h.elim
structure sD (K:PySem.W.Frag)(x qual:Str)(st:Stmt)(f:Addr)(fd:FuncData):Prop where
 ex:∃(oc:Value) (od:Option Addr) (kV doc pm:Value) (an:Option Addr) (cdv ct:Value) (osl:Array (Option Value)),
  fd=PySem.W.fnOf x qual (gP st) (dI st) (bz st) .none kV doc pm an cdv ct/\K.lookup f=some ⟨oc,od,.func fd,osl⟩/\PySem.W.codeIn K cdv qual=true
 kp:PySem.W.keepIn K (.ref f)=true
section
variable {P:Program}{w:World}{K:PySem.W.Frag}{mg:Str->Option Value}{base:Heap}
theorem sD.ok {x qual:Str}{st:Stmt}{f:Addr}{fd:FuncData}{N ps:List Str}{k:Nat}{sp:Sp}(F:sD K x qual st f fd)(S:gO N ps (bz st))(len:∀vs H Q E,sp vs H Q E->vs.length=ps.length)
  (hbody:∀(cdv:Value) (A:Around) (outer:List Env) (s:Shared) (H:Hp) (vs:List V) (Q:VK) (E:XK),aC k (A.deeper (envOfC qual (bz st) s.heap.objs.size f cdv))->sp vs H Q E ->
   ∃t,fu (jM gC P w K mg base N qual (bz st) f cdv A outer s H E).sT (dI st) t/\t { nx:=fun _ H'=>Q .non H',rt:=Q } (start N vs) H):cV P w K mg base gC (k+1) f fd ps sp:=by
 obtain⟨oc,od,kV,doc,pm,an,cdv,ct,osl,rfl,lk,hcd⟩:=F.ex
 refine Gu lk hcd S len fun A outer s H vs Q E hr hsp=>?_
 obtain⟨t,h,q⟩:=hbody cdv A outer s H vs Q E hr hsp
 exact⟨t,h.sT,q⟩
theorem Cb {x qual:Str}{st:Stmt}{f:Addr}{oc:Value}{od an:Option Addr}{osl:Array (Option Value)}{kV doc pm cdv ct:Value}(l:K.lookup f=some ⟨oc,od,.func (PySem.W.fnOf x qual (gP st) (dI st) (bz st) .none kV doc pm an cdv ct),osl⟩)
 (c:PySem.W.codeIn K cdv qual=true) (k:PySem.W.keepIn K (.ref f)=true):sD K x qual st f (PySem.W.fnOf x qual (gP st) (dI st) (bz st) .none kV doc pm an cdv ct):=⟨⟨oc,od,kV,doc,pm,an,cdv,ct,osl,rfl,l,c⟩,k⟩
end
end L2
namespace L3
open PySem PySem.Spec PyProof.Rows L2
inductive D where
 | non | bl (b:Bool) | int (i:Int) | str (x:Str) | tup (xs:List D) | lst (xs:List D) | edc | ref (n:Nat) | aI (n:Nat) | fn (x:Str)
structure KW where
 fr:PySem.W.Frag
 w:World
 mg:Str->Option Value
instance:Coe KW PySem.W.Frag:=⟨KW.fr⟩
abbrev _root_.L2.Cx.kw (X:L2.Cx):KW:=⟨X.K,X.w,X.mg⟩
abbrev G:=List (List D)
abbrev Sg:=List (Option D)
structure Ix where
 ix:List Addr
 hd:List Addr
 kd:Nat->Nat
def kb:Nat->Bool
 | 0=>false
 | _+1=>true
def cS (ι:Ix)(n:Nat)(a:Addr)(b:Bool):Prop:=ι.ix[n]? = some a/\kb (ι.kd n)=b
def Ix.more (ι:Ix)(p:Addr)(b:Nat):Ix:=⟨ι.ix ++ [p],ι.hd,fun i=>if i=ι.ix.length then b else ι.kd i⟩
mutual
def bf:Nat->D->Bool
 | _,.non=>true
 | _,.int _=>true
 | _,.str _=>true
 | n+1,.tup xs=>cJ n xs
 | _,_=>false
def cJ:Nat->List D->Bool
 | _,[]=>true
 | n,d::ds=>bf n d&&cJ n ds
end
mutual
def hD (w:World):D->Int
 | .int i=>hashInt i
 | .str x=>hashStr w x
 | .non=>reduceHash 0xFCA86420
 | .tup xs=>reduceHash (Builtin.Tuple.tupleHashOf (uR w xs))
 | _=>0
def uR (w:World):List D->List Int
 | []=>[]
 | d::ds=>hD w d::uR w ds
end
def dO (a:Addr)(es:List DictEntry)(c:Nat):HO:=.ext fun h=>h.get? a=some { cls:=.type "dict",data:=.dict es.toArray (es.length-c) }
def gG:List DictEntry->List Value
 | []=>[]
 | e::es=>e.key::e.val::gG es
def aO:List D->List D
 | k::_::r=>k::aO r
 | _=>[]
inductive gQ (w:World):List D->List DictEntry->Prop
 | nil:gQ w [] []
 | cons {k v:D} {r:List D} {e:DictEntry} {es:List DictEntry}:bf 6 k=true->e.hash=hD w k->gQ w r es->gQ w (k::v::r) (e::es)
inductive OV (K:KW)(a:Addr)(xs:List D):Nat->HO->List V->Prop
 | l (vs:List V):OV K a xs 0 (.lst vs) vs
 | d (c:Nat) (es:List DictEntry) (vs:List V):c<=es.length->Vals vs (gG es)->gQ K.w xs es->(aO xs).Nodup->(a == sysModules)=false->es.length<=sizeLine->OV K a xs (c+1) (dO a es c) vs
def hU (K:KW)(H:Hp)(ι:Ix)(a:Addr)(xs:List V):Prop :=
 (Rd H a (.lst xs)/\a ∉ ι.ix/\a ∉ ι.hd) \/
  ∃(o:Obj) (its:Array Value) (n:Nat),K.fr.lookup a=some o/\o.cls = .type "list" /\ o.dict=none/\o.data = .seq its n/\its.size<=sizeLine/\Vals xs its.toList
theorem hU.sq {K H ι a xs}(h:hU K H ι a xs):cD K H a xs:=by
 rcases h with⟨h,_⟩ | h
 . exact .inl h
 . exact .inr h
def ip (K:KW)(H:Hp)(ι:Ix)(a:Addr)(xs:List V):Prop :=
 (Rd H a (.tup xs)/\a ∉ ι.ix) \/
  ∃(o:Obj) (its:Array Value) (n:Nat),K.fr.lookup a=some o/\o.cls = .type "tuple" /\ o.dict=none/\o.data = .seq its n/\its.size<=sizeLine/\Vals xs its.toList
theorem ip.sq {K H ι a xs}(h:ip K H ι a xs):dh K H a xs:=by
 rcases h with⟨h,_⟩ | h
 . exact .inl h
 . exact .inr h
mutual
def Rel (K:KW)(H:Hp)(ι:Ix):D->V->Prop
 | .non,v=>v = .non
 | .bl b,v=>v = .bl b
 | .int i,v=>v = .int i
 | .str x,v=>v = .str x
 | .tup xs,v=>∃a vs,v = .ref a/\ip K H ι a vs/\ag K H ι xs vs
 | .lst xs,v=>∃a vs,v = .ref a/\hU K H ι a vs/\ag K H ι xs vs
 | .edc,v=>∃a,v = .ref a/\H a=some (.dK [])/\a ∉ ι.ix
 | .ref n,v=>∃a,v = .ref a/\cS ι n a false
 | .aI n,v=>∃a,v = .ref a/\cS ι n a true
 | .fn x,v=>∃a,v = .ref a/\K.mg x=some (.ref a)
def ag (K:KW)(H:Hp)(ι:Ix):List D->List V->Prop
 | [],vs=>vs = []
 | x::xs,vs=>∃v vr,vs=v::vr/\Rel K H ι x v/\ag K H ι xs vr
end
structure Ext (H:Hp)(ι:Ix)(H':Hp)(ι':Ix):Prop where
 same:∀a o,H a=some o->a ∉ ι.ix->H' a=some o
 there:∀a,H a≠none->H' a≠none
 more:∃m,ι'.ix=ι.ix++m /\ ∀a∈m,H a=none
 hid:ι'.hd=ι.hd
 kds:∀i,i < ι.ix.length->ι'.kd i=ι.kd i
structure ay (K:KW)(H:Hp)(ι:Ix)(g:G):Prop where
 nd:ι.ix.Nodup
 len:ι.ix.length=g.length
 hid:∀b∈ι.hd,b ∉ ι.ix/\H b≠none
 at_:∀(i:Nat) xs,g[i]? = some xs->∃a o vs,ι.ix[i]? = some a/\H a=some o/\OV K a xs (ι.kd i) o vs/\ag K H ι xs vs
def a_ (K:KW)(H:Hp)(ι:Ix)(σd:Sg)(σ:L2.St):Prop :=
 σd.length=σ.length /\ ∀(i:Nat) d,σd[i]? = some (some d)->∃v,σ[i]? = some (some v)/\Rel K H ι d v
theorem Ext.refl {H ι}:Ext H ι H ι:=⟨fun _ _ h _=>h,fun _ h=>h,⟨[],by simp,fun _ h=>by simp at h⟩,rfl,fun _ _=>rfl⟩
theorem Ext.old {H ι H1 ι1}(a:Ext H ι H1 ι1){c:Addr}{o:HO}(h:H c=some o)(n:c ∉ ι.ix):c ∉ ι1.ix:=fun z=>by
 obtain⟨m1,e1,f1⟩:=a.more
 rw [e1] at z
 rcases List.mem_append.mp z with z | z
 . exact n z
 . rw [f1 c z] at h;cases h
theorem Ext.trans {H ι H1 ι1 H2 ι2}(a:Ext H ι H1 ι1)(b:Ext H1 ι1 H2 ι2):Ext H ι H2 ι2:=by
 obtain⟨m1,e1,f1⟩:=a.more
 obtain⟨m2,e2,f2⟩:=b.more
 refine⟨fun c o h n=>b.same c o (a.same c o h n) (a.old h n),fun c h=>b.there c (a.there c h),⟨m1++m2,by rw [e2,e1,List.append_assoc],fun c z=>?_⟩,b.hid.trans a.hid,fun i hi=>(b.kds i (by rw [e1,List.length_append];omega)).trans (a.kds i hi)⟩
 rcases List.mem_append.mp z with z | z
 . exact f1 c z
 . cases q:H c with
   | none=>rfl
   | some o=>exact absurd (f2 c z) (a.there c (by rw [q];simp))
theorem Ext.at {H ι H1 ι1}(a:Ext H ι H1 ι1){i:Nat}{c:Addr}{b:Bool}(h:cS ι i c b):cS ι1 i c b:=by
 obtain⟨m1,e1,_⟩:=a.more
 have hl:=(List.getElem?_eq_some_iff.mp h.1).1
 refine⟨?_,by rw [a.kds i hl];exact h.2⟩
 rw [e1,List.getElem?_append_left hl];exact h.1
theorem hU.ext {K H ι H1 ι1 a xs}(e:Ext H ι H1 ι1)(h:hU K H ι a xs):hU K H1 ι1 a xs:=by
 rcases h with⟨h | ⟨o,h⟩,n,k⟩ | h
 . exact .inl ⟨.inl (e.same _ _ h n),e.old h n,by rw [e.hid];exact k⟩
 . exact .inl ⟨.inr ⟨o,e.same _ _ h n⟩,e.old h n,by rw [e.hid];exact k⟩
 . exact .inr h
theorem ip.ext {K H ι H1 ι1 a xs}(e:Ext H ι H1 ι1)(h:ip K H ι a xs):ip K H1 ι1 a xs:=by
 rcases h with⟨h | ⟨o,h⟩,n⟩ | h
 . exact .inl ⟨.inl (e.same _ _ h n),e.old h n⟩
 . exact .inl ⟨.inr ⟨o,e.same _ _ h n⟩,e.old h n⟩
 . exact .inr h
mutual
theorem Rel.ext {K H ι H1 ι1}(e:Ext H ι H1 ι1):∀(d:D) {v:V},Rel K H ι d v->Rel K H1 ι1 d v
 | .non,v,h=>by simpa [Rel] using h
 | .bl _,v,h=>by simpa [Rel] using h
 | .int _,v,h=>by simpa [Rel] using h
 | .str _,v,h=>by simpa [Rel] using h
 | .tup xs,v,h=>by
  simp only [Rel] at h ⊢
  obtain⟨a,vs,e1,hq,hr⟩:=h
  exact⟨a,vs,e1,hq.ext e,ag.ext e xs hr⟩
 | .lst xs,v,h=>by
  simp only [Rel] at h ⊢
  obtain⟨a,vs,e1,hq,hr⟩:=h
  exact⟨a,vs,e1,hq.ext e,ag.ext e xs hr⟩
 | .edc,v,h=>by
  simp only [Rel] at h ⊢
  obtain⟨a,e1,hq,hr⟩:=h
  exact⟨a,e1,e.same _ _ hq hr,e.old hq hr⟩
 | .ref n,v,h=>by
  simp only [Rel] at h ⊢
  obtain⟨a,e1,hq⟩:=h
  exact⟨a,e1,e.at hq⟩
 | .aI n,v,h=>by
  simp only [Rel] at h ⊢
  obtain⟨a,e1,hq⟩:=h
  exact⟨a,e1,e.at hq⟩
 | .fn x,v,h=>by simpa [Rel] using h
theorem ag.ext {K H ι H1 ι1}(e:Ext H ι H1 ι1):∀(ds:List D) {vs:List V},ag K H ι ds vs->ag K H1 ι1 ds vs
 | [],vs,h=>by simpa [ag] using h
 | d::ds,vs,h=>by
  simp only [ag] at h ⊢
  obtain⟨v,vr,e1,hq,hr⟩:=h
  exact⟨v,vr,e1,Rel.ext e d hq,ag.ext e ds hr⟩
end
theorem a_.ext {K H ι H1 ι1 σd σ}(e:Ext H ι H1 ι1)(h:a_ K H ι σd σ):a_ K H1 ι1 σd σ :=
 ⟨h.1,fun i d q=>let⟨v,a,b⟩:=h.2 i d q;⟨v,a,Rel.ext e d b⟩⟩
theorem ag.length {K H ι}:∀{ds:List D} {vs:List V},ag K H ι ds vs->ds.length=vs.length
 | [],vs,h=>by simp only [ag] at h;subst h;rfl
 | d::ds,vs,h=>by
  simp only [ag] at h
  obtain⟨v,vr,rfl,_,hr⟩:=h
  simp [ag.length hr]
theorem ag.append {K H ι}:∀{ds es:List D} {vs us:List V},ag K H ι ds vs->ag K H ι es us->ag K H ι (ds++es) (vs++us)
 | [],es,vs,us,h,k=>by simp only [ag] at h;subst h;exact k
 | d::ds,es,vs,us,h,k=>by
  simp only [ag] at h
  obtain⟨v,vr,rfl,hv,hr⟩:=h
  simp only [List.cons_append,ag]
  exact⟨v,_,rfl,hv,ag.append hr k⟩
theorem ag.get {K H ι}:∀{ds:List D} {vs:List V} {i:Nat} {d:D},ag K H ι ds vs->ds[i]? = some d->∃v,vs[i]? = some v/\Rel K H ι d v
 | [],_,_,_,_,e=>by simp at e
 | x::ds,vs,0,d,h,e=>by
  simp only [ag] at h
  obtain⟨v,vr,rfl,hv,hr⟩:=h
  simp at e;subst e;exact⟨v,rfl,hv⟩
 | x::ds,vs,i+1,d,h,e=>by
  simp only [ag] at h
  obtain⟨v,vr,rfl,hv,hr⟩:=h
  obtain⟨u,h1,h2⟩:=ag.get (i:=i) hr (by simpa using e)
  exact⟨u,by simpa using h1,h2⟩
theorem ag.set {K H ι d v}(hv:Rel K H ι d v):∀{ds:List D} {vs:List V} (i:Nat),ag K H ι ds vs->ag K H ι (ds.set i d) (vs.set i v)
 | [],_,_,h=>by simp only [ag] at h;subst h;simp [ag]
 | x::ds,vs,0,h=>by
  simp only [ag] at h
  obtain⟨u,vr,rfl,hu,hr⟩:=h
  simp only [List.set_cons_zero,ag]
  exact⟨v,vr,rfl,hv,hr⟩
 | x::ds,vs,i+1,h=>by
  simp only [ag] at h
  obtain⟨u,vr,rfl,hu,hr⟩:=h
  simp only [List.set_cons_succ,ag]
  exact⟨u,_,rfl,hu,ag.set hv i hr⟩
theorem ag.take {K H ι}:∀{ds:List D} {vs:List V} (n:Nat),ag K H ι ds vs->ag K H ι (ds.take n) (vs.take n)
 | _,_,0,_=>by simp [ag]
 | [],_,n+1,h=>by simp only [ag] at h;subst h;simp [ag]
 | x::ds,vs,n+1,h=>by
  simp only [ag] at h
  obtain⟨u,vr,rfl,hu,hr⟩:=h
  simp only [List.take_succ_cons,ag]
  exact⟨u,_,rfl,hu,ag.take n hr⟩
theorem ag.drop {K H ι}:∀{ds:List D} {vs:List V} (n:Nat),ag K H ι ds vs->ag K H ι (ds.drop n) (vs.drop n)
 | _,_,0,h=>h
 | [],_,n+1,h=>by simp only [ag] at h;subst h;simp [ag]
 | x::ds,vs,n+1,h=>by
  simp only [ag] at h
  obtain⟨u,vr,rfl,hu,hr⟩:=h
  simp only [List.drop_succ_cons]
  exact ag.drop n hr
theorem ay.at {K H ι g}(h:ay K H ι g){n:Nat}{xs:List D}{a:Addr}(e:g[n]? = some xs)(ha:cS ι n a false):∃vs,H a=some (.lst vs)/\ag K H ι xs vs:=by
 obtain⟨b,o,vs,hb,h1,ov,h2⟩:=h.at_ n xs e
 rw [ha.1] at hb;cases hb
 have hb:=ha.2
 generalize ι.kd n=k at ov hb
 cases ov with
 | l=>exact⟨vs,h1,h2⟩
 | d=>cases hb
theorem ay.jB {K H ι g}(h:ay K H ι g){n:Nat}{xs:List D}{a:Addr}(e:g[n]? = some xs)(ha:cS ι n a true) :
  ∃es vs c,H a=some (dO a es c)/\ι.kd n=c+1/\c<=es.length/\Vals vs (gG es)/\gQ K.w xs es/\(aO xs).Nodup/\(a == sysModules)=false/\es.length<=sizeLine/\ag K H ι xs vs:=by
 obtain⟨b,o,vs,hb,h1,ov,h2⟩:=h.at_ n xs e
 rw [ha.1] at hb;cases hb
 have hb:=ha.2
 generalize ι.kd n=k at ov hb
 cases ov with
 | l=>cases hb
 | d c es vs h0 h3 h4 h5 h6 h7=>exact⟨es,vs,c,h1,rfl,h0,h3,h4,h5,h6,h7,h2⟩
theorem ay.nY {K H ι g}(h:ay K H ι g){a:Addr}(ha:a∈ι.ix):H a≠none:=by
 obtain⟨i,hi,e⟩:=List.mem_iff_getElem.mp ha
 have hg:i<g.length:=by rw [<- h.len];exact hi
 obtain⟨b,_,vs,hb,h1,_⟩:=h.at_ i _ (List.getElem?_eq_getElem hg)
 rw [List.getElem?_eq_getElem hi,e] at hb
 cases hb
 rw [h1];simp
theorem Ext.lay {H ι p o}(hp:H p=none):Ext H ι (upd H p o) ι :=
 ⟨fun a u h _=>by rw [aN (bS h hp)];exact h,fun a h=>by
  by_cases e:a=p
  . subst e;exact absurd hp h
  . rw [aN e];exact h,⟨[],by simp,fun _ h=>by simp at h⟩,rfl,fun _ _=>rfl⟩
theorem ay.ext {K H ι g H1}(h:ay K H ι g)(e:Ext H ι H1 ι)(k:∀a∈ι.ix,H1 a=H a):ay K H1 ι g :=
 ⟨h.nd,h.len,fun b hb=>⟨(h.hid b hb).1,e.there b (h.hid b hb).2⟩,fun i xs q=>by
  obtain⟨a,o,vs,h1,h2,ov,h3⟩:=h.at_ i xs q
  exact⟨a,o,vs,h1,by rw [k a (List.mem_of_getElem? h1)];exact h2,ov,ag.ext e xs h3⟩⟩
theorem ay.lay {K H ι g p o}(h:ay K H ι g)(hp:H p=none):ay K (upd H p o) ι g :=
 h.ext (Ext.lay hp) fun a ha=>aN fun e=>by subst e;exact h.nY ha hp
theorem ay.fresh {K H ι g p}(h:ay K H ι g)(hp:H p=none):p ∉ ι.ix:=fun ha=>h.nY ha hp
theorem ay.fX {K H ι g p}(h:ay K H ι g)(hp:H p=none):p ∉ ι.hd:=fun ha=>(h.hid p ha).2 hp
theorem Ext.eS {H ι p o b}(hp:H p=none):Ext H ι (upd H p o) (ι.more p b):=by
 have e:=Ext.lay (ι:=ι) (o:=o) hp
 refine⟨e.same,e.there,⟨[p],rfl,fun a ha=>by simp at ha;subst ha;exact hp⟩,rfl,fun i hi=>?_⟩
 show(if i=ι.ix.length then b else ι.kd i)=ι.kd i
 rw [if_neg (by omega)]
theorem Ext.push {H ι p o}(hp:H p=none):Ext H ι (upd H p o) (ι.more p 0):=Ext.eS hp
theorem ay.eS {K H ι g p o xs vs b}(h:ay K H ι g)(hp:H p=none)(ov:OV K p xs b o vs)(r:ag K H ι xs vs):ay K (upd H p o) (ι.more p b) (g ++ [xs]):=by
 have hn:=h.fresh hp
 refine⟨?_,by simp [Ix.more,h.len],fun b hb=>⟨fun z=>?_,(Ext.eS (ι:=ι) (o:=o) (b:=0) hp).there b (h.hid b hb).2⟩,fun i ys q=>?_⟩
 . show(ι.ix ++ [p]).Nodup
   rw [List.nodup_append]
   refine⟨h.nd,by simp,fun a ha b hb=>?_⟩
   simp at hb;subst hb
   intro e;subst e;exact hn ha
 . rcases List.mem_append.mp z with z | z
   . exact(h.hid b hb).1 z
   . simp at z;subst z;exact(h.hid _ hb).2 hp
 . by_cases hi:i<g.length
   . rw [List.getElem?_append_left hi] at q
     obtain⟨a,o',us,h1,h2,ov',h3⟩:=h.at_ i ys q
     refine⟨a,o',us,(by show(ι.ix ++ [p])[i]? = some a;rw [List.getElem?_append_left (by rw [h.len];exact hi)];exact h1),?_,?_,ag.ext (Ext.eS hp) ys h3⟩
     . rw [aN (bS h2 hp)];exact h2
     . show OV K _ _ (if i=ι.ix.length then b else ι.kd i) o' us
       rw [if_neg (by rw [h.len];omega)];exact ov'
   . rw [List.getElem?_append_right (by omega)] at q
     have hi0:i-g.length=0:=by
       cases e:i-g.length with
       | zero=>rfl
       | succ k=>rw [e] at q;simp at q
     rw [hi0] at q
     have e:xs=ys:=by simpa using q
     subst e
     have hi1:i=ι.ix.length:=by rw [h.len];omega
     refine⟨p,o,vs,?_,aX,?_,ag.ext (Ext.eS hp) xs r⟩
     . show(ι.ix ++ [p])[i]? = some p
       rw [hi1];simp
     . show OV K _ _ (if i=ι.ix.length then b else ι.kd i) o vs
       rw [if_pos hi1];exact ov
theorem ay.push {K H ι g p xs vs}(h:ay K H ι g)(hp:H p=none)(r:ag K H ι xs vs):ay K (upd H p (.lst vs)) (ι.more p 0) (g ++ [xs]):=h.eS hp (.l vs) r
theorem cS.new {ι:Ix}{p:Addr}{k:Nat}{n:Nat}(h:ι.ix.length=n):cS (ι.more p k) n p (kb k):=by
 subst h
 exact⟨by show(ι.ix ++ [p])[ι.ix.length]? = some p;simp,by show kb (if ι.ix.length=ι.ix.length then k else ι.kd ι.ix.length)=kb k;rw [if_pos rfl]⟩
theorem Ext.put {H ι}{n:Nat}{a o o'}{b:Bool}(ha:cS ι n a b)(h:H a=some o):Ext H ι (upd H a o') ι :=
 ⟨fun b o q nb=>by rw [aN (fun e=>nb (by rw [e];exact List.mem_of_getElem? ha.1))];exact q,fun b q=>by
  by_cases e:b=a
  . subst e;rw [aX];simp
  . rw [aN e];exact q,⟨[],by simp,fun _ z=>by simp at z⟩,rfl,fun _ _=>rfl⟩
theorem ay.CB {K H ι g}{n:Nat}{a o o' xs ws}{b:Bool}(h:ay K H ι g)(ha:cS ι n a b)(hv:H a=some o)(ov:OV K a xs (ι.kd n) o' ws)(r:ag K H ι xs ws):ay K (upd H a o') ι (g.set n xs):=by
 refine⟨h.nd,by simp [h.len],fun b hb=>⟨(h.hid b hb).1,(Ext.put ha hv).there b (h.hid b hb).2⟩,fun i ys q=>?_⟩
 by_cases e:i=n
 . subst e
   have hi:i<g.length:=by rw [<- h.len];exact(List.getElem?_eq_some_iff.mp ha.1).1
   rw [List.getElem?_set_self hi] at q
   cases q
   exact⟨a,o',ws,ha.1,aX,ov,ag.ext (Ext.put ha hv) _ r⟩
 . rw [List.getElem?_set_ne (Ne.symm e)] at q
   obtain⟨b,o2,us,h1,h2,ov2,h3⟩:=h.at_ i ys q
   refine⟨b,o2,us,h1,?_,ov2,ag.ext (Ext.put ha hv) ys h3⟩
   rw [aN ?_]
   . exact h2
   . intro z
     subst z
     obtain⟨hi,e1⟩:=List.getElem?_eq_some_iff.mp h1
     obtain⟨hn,e2⟩:=List.getElem?_eq_some_iff.mp ha.1
     exact e ((List.getElem_inj h.nd).mp (e1.trans e2.symm))
theorem ay.put {K H ι g}{n:Nat}{a vs xs ws}(h:ay K H ι g)(ha:cS ι n a false)(hv:H a=some (.lst vs))(r:ag K H ι xs ws):ay K (upd H a (.lst ws)) ι (g.set n xs):=h.CB ha hv (by
 have hb:=ha.2
 cases e:ι.kd n with
 | zero=>exact .l ws
 | succ k=>rw [e] at hb;cases hb) r
def Ix.hide (ι:Ix)(p:Addr):Ix:=⟨ι.ix,p::ι.hd,ι.kd⟩
mutual
theorem Rel.show {K H ι p}:∀(d:D) {v:V},Rel K H (Ix.hide ι p) d v->Rel K H ι d v
 | .non,v,h=>by simpa [Rel] using h
 | .bl _,v,h=>by simpa [Rel] using h
 | .int _,v,h=>by simpa [Rel] using h
 | .str _,v,h=>by simpa [Rel] using h
 | .tup xs,v,h=>by
  simp only [Rel] at h ⊢
  obtain⟨a,vs,e1,hq,hr⟩:=h
  exact⟨a,vs,e1,hq,ag.show xs hr⟩
 | .lst xs,v,h=>by
  simp only [Rel] at h ⊢
  obtain⟨a,vs,e1,hq,hr⟩:=h
  refine⟨a,vs,e1,?_,ag.show xs hr⟩
  rcases hq with⟨h,n,k⟩ | h
  . exact .inl ⟨h,n,fun z=>k (List.mem_cons_of_mem _ z)⟩
  . exact .inr h
 | .edc,v,h=>by simpa [Rel,Ix.hide] using h
 | .ref n,v,h=>by simpa [Rel,Ix.hide,cS] using h
 | .aI n,v,h=>by simpa [Rel,Ix.hide,cS] using h
 | .fn x,v,h=>by simpa [Rel] using h
theorem ag.show {K H ι p}:∀(ds:List D) {vs:List V},ag K H (Ix.hide ι p) ds vs->ag K H ι ds vs
 | [],vs,h=>by simpa [ag] using h
 | d::ds,vs,h=>by
  simp only [ag] at h ⊢
  obtain⟨v,vr,e1,hq,hr⟩:=h
  exact⟨v,vr,e1,Rel.show d hq,ag.show ds hr⟩
end
mutual
theorem Rel.hide {K H ι p o}(hp:H p=none):∀(d:D) {v:V},Rel K H ι d v->Rel K (upd H p o) (Ix.hide ι p) d v
 | .non,v,h=>by simpa [Rel] using h
 | .bl _,v,h=>by simpa [Rel] using h
 | .int _,v,h=>by simpa [Rel] using h
 | .str _,v,h=>by simpa [Rel] using h
 | .tup xs,v,h=>by
  simp only [Rel] at h ⊢
  obtain⟨a,vs,e1,hq,hr⟩:=h
  refine⟨a,vs,e1,?_,ag.hide hp xs hr⟩
  rcases hq with⟨h | ⟨u,h⟩,n⟩ | h
  . exact .inl ⟨.inl (by rw [aN (bS h hp)];exact h),n⟩
  . exact .inl ⟨.inr ⟨u,by rw [aN (bS h hp)];exact h⟩,n⟩
  . exact .inr h
 | .lst xs,v,h=>by
  simp only [Rel] at h ⊢
  obtain⟨a,vs,e1,hq,hr⟩:=h
  refine⟨a,vs,e1,?_,ag.hide hp xs hr⟩
  have out:∀{u:HO},H a=some u->a ∉ ι.hd->a ∉ (Ix.hide ι p).hd:=fun h k z=>by
    rcases List.mem_cons.mp z with z | z
    . exact bS h hp z
    . exact k z
  rcases hq with⟨h | ⟨u,h⟩,n,k⟩ | h
  . exact .inl ⟨.inl (by rw [aN (bS h hp)];exact h),n,out h k⟩
  . exact .inl ⟨.inr ⟨u,by rw [aN (bS h hp)];exact h⟩,n,out h k⟩
  . exact .inr h
 | .edc,v,h=>by
  simp only [Rel] at h ⊢
  obtain⟨a,e1,hq,hr⟩:=h
  exact⟨a,e1,by rw [aN (bS hq hp)];exact hq,hr⟩
 | .ref n,v,h=>by simpa [Rel,Ix.hide,cS] using h
 | .aI n,v,h=>by simpa [Rel,Ix.hide,cS] using h
 | .fn x,v,h=>by simpa [Rel] using h
theorem ag.hide {K H ι p o}(hp:H p=none):∀(ds:List D) {vs:List V},ag K H ι ds vs->ag K (upd H p o) (Ix.hide ι p) ds vs
 | [],vs,h=>by simpa [ag] using h
 | d::ds,vs,h=>by
  simp only [ag] at h ⊢
  obtain⟨v,vr,e1,hq,hr⟩:=h
  exact⟨v,vr,e1,Rel.hide hp d hq,ag.hide hp ds hr⟩
end
mutual
theorem Rel.grow {K H ι p us ws}(hp:H p=some (.lst us)):∀(d:D) {v:V},Rel K H (Ix.hide ι p) d v->Rel K (upd H p (.lst ws)) (Ix.hide ι p) d v
 | .non,v,h=>by simpa [Rel] using h
 | .bl _,v,h=>by simpa [Rel] using h
 | .int _,v,h=>by simpa [Rel] using h
 | .str _,v,h=>by simpa [Rel] using h
 | .tup xs,v,h=>by
  simp only [Rel] at h ⊢
  obtain⟨a,vs,e1,hq,hr⟩:=h
  refine⟨a,vs,e1,?_,ag.grow hp xs hr⟩
  rcases hq with⟨h | ⟨u,h⟩,n⟩ | h
  . exact .inl ⟨.inl (by rw [aN (uC h hp (by simp))];exact h),n⟩
  . exact .inl ⟨.inr ⟨u,by rw [aN (uC h hp (by simp))];exact h⟩,n⟩
  . exact .inr h
 | .lst xs,v,h=>by
  simp only [Rel] at h ⊢
  obtain⟨a,vs,e1,hq,hr⟩:=h
  refine⟨a,vs,e1,?_,ag.grow hp xs hr⟩
  rcases hq with⟨h,n,k⟩ | h
  . have ne:a≠p:=fun z=>k (by rw [z];exact List.mem_cons_self)
    rcases h with h | ⟨u,h⟩
    . exact .inl ⟨.inl (by rw [aN ne];exact h),n,k⟩
    . exact .inl ⟨.inr ⟨u,by rw [aN ne];exact h⟩,n,k⟩
  . exact .inr h
 | .edc,v,h=>by
  simp only [Rel] at h ⊢
  obtain⟨a,e1,hq,hr⟩:=h
  exact⟨a,e1,by rw [aN (uC hq hp (by simp))];exact hq,hr⟩
 | .ref n,v,h=>by simpa [Rel,Ix.hide,cS] using h
 | .aI n,v,h=>by simpa [Rel,Ix.hide,cS] using h
 | .fn x,v,h=>by simpa [Rel] using h
theorem ag.grow {K H ι p us ws}(hp:H p=some (.lst us)):∀(ds:List D) {vs:List V},ag K H (Ix.hide ι p) ds vs->ag K (upd H p (.lst ws)) (Ix.hide ι p) ds vs
 | [],vs,h=>by simpa [ag] using h
 | d::ds,vs,h=>by
  simp only [ag] at h ⊢
  obtain⟨v,vr,e1,hq,hr⟩:=h
  exact⟨v,vr,e1,Rel.grow hp d hq,ag.grow hp ds hr⟩
end
theorem ay.hide {K H ι p o g}(hp:H p=none)(h:ay K H ι g):ay K (upd H p o) (Ix.hide ι p) g :=
 ⟨h.nd,h.len,fun b hb=>by
  rcases List.mem_cons.mp hb with rfl | hb
  . exact⟨h.fresh hp,by rw [aX];simp⟩
  . refine⟨(h.hid b hb).1,?_⟩
    by_cases e:b=p
    . subst e;rw [aX];simp
    . rw [aN e];exact(h.hid b hb).2,fun i xs q=>by
  obtain⟨a,o,vs,h1,h2,ov,h3⟩:=h.at_ i xs q
  exact⟨a,o,vs,h1,by rw [aN (bS h2 hp)];exact h2,ov,ag.hide hp xs h3⟩⟩
theorem ay.show {K H ι p g}(h:ay K H (Ix.hide ι p) g):ay K H ι g :=
 ⟨h.nd,h.len,fun b hb=>h.hid b (List.mem_cons_of_mem _ hb),fun i xs q=>by
  obtain⟨a,o,vs,h1,h2,ov,h3⟩:=h.at_ i xs q
  exact⟨a,o,vs,h1,h2,ov,ag.show xs h3⟩⟩
theorem ay.grow {K H ι p us ws g}(hp:H p=some (.lst us))(h:ay K H (Ix.hide ι p) g):ay K (upd H p (.lst ws)) (Ix.hide ι p) g :=
 ⟨h.nd,h.len,fun b hb=>⟨(h.hid b hb).1,by
   by_cases e:b=p
   . subst e;rw [aX];simp
   . rw [aN e];exact(h.hid b hb).2⟩,fun i xs q=>by
  obtain⟨a,o,vs,h1,h2,ov,h3⟩:=h.at_ i xs q
  refine⟨a,o,vs,h1,?_,ov,ag.grow hp xs h3⟩
  rw [aN (fun e=>(h.hid p List.mem_cons_self).1 (by rw [<- e];exact List.mem_of_getElem? h1))];exact h2⟩
abbrev FE:=Sg->G->Option (D×G)
abbrev FT:=Sg->G->Option (Bool×G)
abbrev FA:=Sg->G->Option (List D×G)
def eh (K:KW)(H:Hp)(ι:Ix)(d:D)(g':G)(Q:VK):Prop:=∀H' ι' v,Ext H ι H' ι'->ay K H' ι' g'->Rel K H' ι' d v->Q v H'
def FD (K:KW)(H:Hp)(ι:Ix)(ds:List D)(g':G)(Q:List V->Hp->Prop):Prop:=∀H' ι' vs,Ext H ι H' ι'->ay K H' ι' g'->ag K H' ι' ds vs->Q vs H'
def mw (K:KW)(H:Hp)(ι:Ix)(g':G)(Q:Hp->Prop):Prop:=∀H' ι',Ext H ι H' ι'->ay K H' ι' g'->Q H'
inductive tD (K:KW)(f:FE)(σ:L2.St)(H:Hp)(Q:VK):Prop
 | mk (ι:Ix) (σd:Sg) (g:G) (d:D) (g':G) (h0:ay K H ι g) (h1:a_ K H ι σd σ) (h2:f σd g=some (d,g')) (h3:eh K H ι d g' Q):tD K f σ H Q
inductive f_ (K:KW)(f:FA)(σ:L2.St)(H:Hp)(Q:(List V->Hp->Prop)):Prop
 | mk (ι:Ix) (σd:Sg) (g:G) (d:List D) (g':G) (h0:ay K H ι g) (h1:a_ K H ι σd σ) (h2:f σd g=some (d,g')) (h3:FD K H ι d g' Q):f_ K f σ H Q
inductive iF (K:KW)(f:FT)(σ:L2.St)(H:Hp)(Q:(Bool->Hp->Prop)):Prop
 | mk (ι:Ix) (σd:Sg) (g:G) (b:Bool) (g':G) (h0:ay K H ι g) (h1:a_ K H ι σd σ) (h2:f σd g=some (b,g')) (h3:mw K H ι g' (Q b)):iF K f σ H Q
structure DE (X:Cx)(e:Expr)(f:FE):Prop where of ::
 un:PE X e (tD X.kw f)
structure DA (X:Cx)(es:List Expr)(f:FA):Prop where of ::
 un:PA X es (f_ X.kw f)
structure DT (X:Cx)(e:Expr)(f:FT):Prop where of ::
 un:PT X e (iF X.kw f)
structure DW (X:Cx)(e:Expr)(f:FT):Prop where of ::
 un:PW X e (iF X.kw f)
theorem PE.imp {X:Cx}{e:Expr}{t t':TE}(h:PE X e t)(i:∀σ H Q,t' σ H Q->t σ H Q):PE X e t':=fun pins s σ H Q I q=>h pins s σ H Q I (i σ H Q q)
theorem PT.imp {X:Cx}{e:Expr}{t t':TT}(h:PT X e t)(i:∀σ H Q,t' σ H Q->t σ H Q):PT X e t':=fun pins s σ H Q I q=>h pins s σ H Q I (i σ H Q q)
theorem PW.imp {X:Cx}{e:Expr}{t t':TT}(h:PW X e t)(i:∀σ H Q,t' σ H Q->t σ H Q):PW X e t':=fun w pins s σ H Q I q=>h w pins s σ H Q I (i σ H Q q)
theorem PA.imp {X:Cx}{e:List Expr}{t t':TA}(h:PA X e t)(i:∀σ H Q,t' σ H Q->t σ H Q):PA X e t':=fun pos pins s σ H Q I q=>h pos pins s σ H Q I (i σ H Q q)
theorem eh.mono {K H ι H1 ι1 d g' Q}(e:Ext H ι H1 ι1)(p:eh K H ι d g' Q):eh K H1 ι1 d g' Q:=fun H' ι' v e' r q=>p H' ι' v (e.trans e') r q
theorem mw.mono {K H ι H1 ι1 g' Q}(e:Ext H ι H1 ι1)(p:mw K H ι g' Q):mw K H1 ι1 g' Q:=fun H' ι' e' r=>p H' ι' (e.trans e') r
theorem tD.bind {K f}{σ:L2.St}{H:Hp}{Q:VK}{ι σd g d g'}(G0:ay K H ι g)(S0:a_ K H ι σd σ)(h:f σd g=some (d,g'))
  (k:∀H1 ι1 v,Ext H ι H1 ι1->ay K H1 ι1 g'->a_ K H1 ι1 σd σ->Rel K H1 ι1 d v->Q v H1):tD K f σ H Q :=
 ⟨ι,σd,g,d,g',G0,S0,h,fun H' ι' v e r q=>k H' ι' v e r (S0.ext e) q⟩
theorem f_.bind {K f}{σ:L2.St}{H:Hp}{Q:List V->Hp->Prop}{ι σd g d g'}(G0:ay K H ι g)(S0:a_ K H ι σd σ)(h:f σd g=some (d,g'))
  (k:∀H1 ι1 v,Ext H ι H1 ι1->ay K H1 ι1 g'->a_ K H1 ι1 σd σ->ag K H1 ι1 d v->Q v H1):f_ K f σ H Q :=
 ⟨ι,σd,g,d,g',G0,S0,h,fun H' ι' v e r q=>k H' ι' v e r (S0.ext e) q⟩
theorem iF.bind {K f}{σ:L2.St}{H:Hp}{Q:Bool->Hp->Prop}{ι σd g d g'}(G0:ay K H ι g)(S0:a_ K H ι σd σ)(h:f σd g=some (d,g'))
  (k:∀H1 ι1,Ext H ι H1 ι1->ay K H1 ι1 g'->a_ K H1 ι1 σd σ->Q d H1):iF K f σ H Q :=
 ⟨ι,σd,g,d,g',G0,S0,h,fun H' ι' e r=>k H' ι' e r (S0.ext e)⟩
section
variable {X:Cx}{a b c e:Expr}{es rest:List Expr}{pos:Pos}{fa fb fc:FE}{fr:FA}{ga gb:FT}
def fC (d:D):FE:=fun _ g=>some (d,g)
def aa (i:Nat):FE:=fun σ g=>match σ[i]? with | some (some d)=>some (d,g) | _=>none
theorem EG {i j pos}:DE X (.Constant (.int i) j pos) (fC (.int i)):=.of (PE.imp E2 fun σ H Q h=>by
 obtain⟨ι,σd,g,d,g',G0,S0,h,p⟩:=h
 cases h;exact p H ι _ Ext.refl G0 (by simp [Rel]))
theorem Cu {i j pos}:DE X (.Constant (.str i) j pos) (fC (.str i)):=.of (PE.imp B4 fun σ H Q h=>by
 obtain⟨ι,σd,g,d,g',G0,S0,h,p⟩:=h
 cases h;exact p H ι _ Ext.refl G0 (by simp [Rel]))
theorem F6 {i j pos}:DE X (.Constant (.bool i) j pos) (fC (.bl i)):=.of (PE.imp Ft fun σ H Q h=>by
 obtain⟨ι,σd,g,d,g',G0,S0,h,p⟩:=h
 cases h;exact p H ι _ Ext.refl G0 (by simp [Rel]))
theorem ES {j pos}:DE X (.Constant .none j pos) (fC .non):=.of (PE.imp CJ fun σ H Q h=>by
 obtain⟨ι,σd,g,d,g',G0,S0,h,p⟩:=h
 cases h;exact p H ι _ Ext.refl G0 (by simp [Rel]))
theorem Ck (i:Nat){x:Str}{pos:Pos}(hN:X.N[i]? = some x:=by rfl)(hv:CL X.env.scope x:=by first | exact Or.inl rfl | exact Or.inr (Or.inl rfl) | exact Or.inr (Or.inr rfl))(hd:(x == ("__debug__":Str))=false:=by decide)
   (hcd:(x == ("__classdict__":Str))=false:=by decide):DE X (.Name x pos) (aa i):=.of (PE.imp (ED hN hv hd hcd) fun σ H Q h=>by
 obtain⟨ι,σd,g,d,g',G0,S0,h,p⟩:=h
 unfold aa at h
 split at h
 . rename_i d' e
   obtain⟨rfl,rfl⟩:d'=d/\g=g':=by cases h;exact⟨rfl,rfl⟩
   obtain⟨v,h1,h2⟩:=S0.2 i _ e
   exact⟨v,h1,p H ι v Ext.refl G0 h2⟩
 . cases h)
theorem Af {x:Str}{v:V}{u:Value}{d:D}(hg:Gl X x)(hm:X.mg x=some u)(r:RelV v u)(rd:∀K H ι,Rel K H ι d v)(hd:(x == ("__debug__":Str))=false:=by decide):DE X (.Name x pos) (fC d):=.of (
 PE.imp (sh hg hm r hd) fun σ H Q h=>by
  obtain⟨ι,σd,g,d,g',G0,S0,h,p⟩:=h
  cases h;exact p H ι _ Ext.refl G0 (rd _ _ _))
inductive cA (K:KW)(o:D->D->G->Option (D×G))(x:V)(y:V)(H:Hp)(Q:VK):Prop
 | mk (ι:Ix) (g:G) (d1:D) (d2:D) (d:D) (g':G) (h0:ay K H ι g) (h1:Rel K H ι d1 x) (h2:Rel K H ι d2 y) (h3:o d1 d2 g=some (d,g')) (h4:eh K H ι d g' Q):cA K o x y H Q
inductive Ee (K:KW)(o:D->G->Option (D×G))(x:V)(H:Hp)(Q:VK):Prop
 | mk (ι:Ix) (g:G) (d1:D) (d:D) (g':G) (h0:ay K H ι g) (h1:Rel K H ι d1 x) (h2:o d1 g=some (d,g')) (h3:eh K H ι d g' Q):Ee K o x H Q
inductive fI (K:KW)(o:List D->G->Option (D×G))(xs:List V)(H:Hp)(Q:VK):Prop
 | mk (ι:Ix) (g:G) (ds:List D) (d:D) (g':G) (h0:ay K H ι g) (h1:ag K H ι ds xs) (h2:o ds g=some (d,g')) (h3:eh K H ι d g' Q):fI K o xs H Q
def aj (o:D->D->G->Option (D×G))(fa fb:FE):FE:=fun σ g=>(fa σ g).bind fun r=>(fb σ r.2).bind fun q=>o r.1 q.1 q.2
def uY (o:D->G->Option (D×G))(fa:FE):FE:=fun σ g=>(fa σ g).bind fun r=>o r.1 r.2
theorem bind_some {α β:Type}{x:Option α}{f:α->Option β}{b:β}(h:x.bind f=some b):∃a,x=some a/\f a=some b:=by
 cases x with
 | none=>cases h
 | some a=>exact⟨a,rfl,h⟩
theorem lM {K}{o:D->D->G->Option (D×G)}{σ:L2.St}{H:Hp}{Q:VK}(h:tD K (aj o fa fb) σ H Q):wc (cA K o) (tD K fa) (tD K fb) σ H Q:=by
 obtain⟨ι,σd,g,d,g',G0,S0,h,p⟩:=h
 obtain⟨⟨d1,g1⟩,h1,h⟩:=bind_some h
 obtain⟨⟨d2,g2⟩,h2,h⟩:=bind_some h
 refine tD.bind G0 S0 h1 fun H1 ι1 v e1 G1 S1 r1=>?_
 refine tD.bind G1 S1 h2 fun H2 ι2 u e2 G2 S2 r2=>?_
 exact⟨ι2,g2,d1,d2,d,g',G2,Rel.ext e2 _ r1,r2,h,p.mono (e1.trans e2)⟩
theorem gM {op:Operator}{o:D->D->G->Option (D×G)}(ho:bw X (binaryOp op) (cA X.kw o))(ha:DE X a fa)(hb:DE X b fb):DE X (.BinOp a op b pos) (aj o fa fb):=.of (
 PE.imp (Fu ho ha.un hb.un) fun σ H Q h=>lM h)
theorem uX {op:CmpOp}{o:D->D->G->Option (D×G)}(ho:bw X (compareOp op) (cA X.kw o))(ha:DE X a fa)(hb:DE X b fb)(hm:behindInMarks op b=false:=by first | exact nomark _ | with_unfolding_all rfl):DE X (.Compare a [op] [b] pos) (aj o fa fb):=.of (
 PE.imp (AD ho ha.un hb.un hm) fun σ H Q h=>lM h)
theorem GO {op:UnaryOp}{o:D->G->Option (D×G)}(ho:vB X (unaryOp op) (Ee X.kw o))(ha:DE X a fa):DE X (.UnaryOp op a pos) (uY o fa):=.of (
 PE.imp (Fs ho ha.un) fun σ H Q h=>by
  obtain⟨ι,σd,g,d,g',G0,S0,h,p⟩:=h
  obtain⟨⟨d1,g1⟩,h1,h⟩:=bind_some h
  refine tD.bind G0 S0 h1 fun H1 ι1 v e1 G1 S1 r1=>?_
  exact⟨ι1,g1,d1,d,g',G1,r1,h,p.mono e1⟩)
def ju (r:Option (D×G)):Option (Bool×G):=r.bind fun r=>match r.1 with | .bl b=>some (b,r.2) | _=>none
theorem q_ {r:Option (D×G)}{b:Bool}{g:G}(h:ju r=some (b,g)):r=some (.bl b,g):=by
 obtain⟨⟨d,g1⟩,h1,h⟩:=bind_some h
 cases d with
 | bl k=>cases h;exact h1
 | _=>cases h
def az (f:FE):FT:=fun σ g=>ju (f σ g)
theorem yf {K f}{σ:L2.St}{H:Hp}{Q:Bool->Hp->Prop}(h:iF K (az f) σ H Q):oI (tD K f) σ H Q:=by
 obtain⟨ι,σd,g,b,g',G0,S0,h,p⟩:=h
 obtain⟨⟨d,g1⟩,h1,h⟩:=bind_some h
 cases d with
 | bl k =>
  cases h
  exact tD.bind G0 S0 h1 fun H1 ι1 v e1 G1 S1 r1=>⟨b,by simpa [Rel] using r1,p H1 ι1 e1 G1⟩
 | _=>cases h
theorem ue {t t':TE}(i:∀σ H Q,t' σ H Q->t σ H Q){σ:L2.St}{H:Hp}{Q:Bool->Hp->Prop}(h:oI t' σ H Q):oI t σ H Q:=i σ H _ h
theorem wB {op:CmpOp}{o:D->D->G->Option (D×G)}(ho:bw X (compareOp op) (cA X.kw o))(ha:DE X a fa)(hb:DE X b fb)(hm:behindInMarks op b=false:=by first | exact nomark _ | with_unfolding_all rfl):DT X (.Compare a [op] [b] pos) (az (aj o fa fb)):=.of (
 PT.imp (Bk ho ha.un hb.un hm) fun σ H Q h=>ue (fun _ _ _=>lM) (yf h))
def iA (d:D)(g:G):Option Bool:=match d with
 | .non=>some false
 | .bl b=>some b
 | .int i=>some (i != 0)
 | .tup xs=>some (!xs.isEmpty)
 | .lst xs=>some (!xs.isEmpty)
 | .edc=>some false
 | .ref n=>match g[n]? with | some xs=>some (!xs.isEmpty) | none=>none
 | .str _=>none
 | .aI _=>none
 | .fn _=>none
def dg (f:FE):FT:=fun σ g=>(f σ g).bind fun r=>(iA r.1 r.2).map fun b=>(b,r.2)
theorem ag.isEmpty {K H ι}{ds:List D}{vs:List V}(h:ag K H ι ds vs):ds.isEmpty=vs.isEmpty:=by
 have:=h.length
 cases ds<;>cases vs<;>simp_all
theorem AK {K H ι g d v b}(G0:ay K H ι g)(r:Rel K H ι d v)(h:iA d g=some b):yt K v H b:=by
 cases d with
 | non=>simp only [Rel] at r;subst r;cases h;rfl
 | bl x=>simp only [Rel] at r;subst r;cases h;rfl
 | int x=>simp only [Rel] at r;subst r;cases h;rfl
 | str x=>cases h
 | tup xs =>
  simp only [Rel] at r;obtain⟨a,vs,rfl,hq,hr⟩:=r;cases h
  exact .inr (.inl ⟨vs,hq.sq,by rw [hr.isEmpty]⟩)
 | lst xs =>
  simp only [Rel] at r;obtain⟨a,vs,rfl,hq,hr⟩:=r;cases h
  exact .inl ⟨vs,hq.sq,by rw [hr.isEmpty]⟩
 | edc =>
  simp only [Rel] at r;obtain⟨a,rfl,hq,_⟩:=r;cases h
  exact .inr (.inr ⟨[],hq,rfl⟩)
 | ref n =>
  simp only [Rel] at r;obtain⟨a,rfl,ha⟩:=r
  simp only [iA] at h
  split at h
  . rename_i xs e
    cases h
    obtain⟨vs,h1,h2⟩:=G0.at e ha
    exact .inl ⟨vs,.of h1,by rw [h2.isEmpty]⟩
  . cases h
 | aI n=>cases h
 | fn x=>cases h
theorem D2 (ha:DE X a fa)(he:∀whole,isTrue a X.env whole=(do let v <- whole;standAt a.pos;holding [v] (truthy v)):=by intro _;rfl):DT X a (dg fa):=.of (
 PT.imp (yG ha.un he) fun σ H Q h=>by
  obtain⟨ι,σd,g,b,g',G0,S0,h,p⟩:=h
  obtain⟨⟨d,g1⟩,h1,h⟩:=bind_some h
  cases ht:iA d g1 with
  | none=>rw [ht] at h;cases h
  | some k =>
   rw [ht] at h;cases h
   exact tD.bind G0 S0 h1 fun H1 ι1 v e1 G1 S1 r1=>⟨b,AK G1 r1 ht,p H1 ι1 e1 G1⟩)
def cL (ga gb:FT):FT:=fun σ g=>(ga σ g).bind fun r=>if r.1=true then gb σ r.2 else some (false,r.2)
def ib (ga gb:FT):FT:=fun σ g=>(ga σ g).bind fun r=>if r.1=true then some (true,r.2) else gb σ r.2
def gR (ga:FT):FT:=fun σ g=>(ga σ g).bind fun r=>some (!r.1,r.2)
theorem z7 (ha:DT X a ga):DW X (.BoolOp .And [a] pos) ga:=.of (AL ha.un)
theorem Fg (ha:DT X a ga):DW X (.BoolOp .Or [a] pos) ga:=.of (EA ha.un)
theorem EE (ha:DT X a ga)(hb:DW X (.BoolOp .And (b::rest) pos) gb):DW X (.BoolOp .And (a::b::rest) pos) (cL ga gb):=.of (
 PW.imp (Ed ha.un hb.un) fun σ H Q h=>by
  obtain⟨ι,σd,g,k,g',G0,S0,h,p⟩:=h
  obtain⟨⟨k1,g1⟩,h1,h⟩:=bind_some h
  refine iF.bind G0 S0 h1 fun H1 ι1 e1 G1 S1=>?_
  cases k1 with
  | true=>simp only [if_true] at h ⊢;exact⟨ι1,σd,g1,k,g',G1,S1,h,p.mono e1⟩
  | false=>simp only [Bool.false_eq_true,if_false] at h ⊢;cases h;exact p H1 ι1 e1 G1)
theorem Gk (ha:DT X a ga)(hb:DW X (.BoolOp .Or (b::rest) pos) gb):DW X (.BoolOp .Or (a::b::rest) pos) (ib ga gb):=.of (
 PW.imp (FN ha.un hb.un) fun σ H Q h=>by
  obtain⟨ι,σd,g,k,g',G0,S0,h,p⟩:=h
  obtain⟨⟨k1,g1⟩,h1,h⟩:=bind_some h
  refine iF.bind G0 S0 h1 fun H1 ι1 e1 G1 S1=>?_
  cases k1 with
  | false=>simp only [Bool.false_eq_true,if_false] at h ⊢;exact⟨ι1,σd,g1,k,g',G1,S1,h,p.mono e1⟩
  | true=>simp only [if_true] at h ⊢;cases h;exact p H1 ι1 e1 G1)
theorem DW.dt (h:DW X a ga):DT X a ga:=.of (PW.pt h.un)
theorem Et (ha:DT X a ga):DT X (.UnaryOp .Not a pos) (gR ga):=.of (
 PT.imp (CD ha.un) fun σ H Q h=>by
  obtain⟨ι,σd,g,k,g',G0,S0,h,p⟩:=h
  obtain⟨⟨k1,g1⟩,h1,h⟩:=bind_some h
  cases h
  exact iF.bind G0 S0 h1 fun H1 ι1 e1 G1 S1=>p H1 ι1 e1 G1)
def ij (fa fb:FE):FE:=fun σ g=>(ju (fa σ g)).bind fun r=>if r.1=true then fb σ r.2 else some (.bl false,r.2)
def qX (fa fb:FE):FE:=fun σ g=>(ju (fa σ g)).bind fun r=>if r.1=true then some (.bl true,r.2) else fb σ r.2
theorem B5 {op}(h:DE X a fa):DE X (.BoolOp op [a] pos) fa:=.of (Ez h.un)
theorem vo (ha:DE X a fa)(hb:DE X (.BoolOp .And (b::rest) pos) fb):DE X (.BoolOp .And (a::b::rest) pos) (ij fa fb):=.of (
 PE.imp (Ff ha.un hb.un) fun σ H Q h=>by
  obtain⟨ι,σd,g,d,g',G0,S0,h,p⟩:=h
  obtain⟨⟨k1,g1⟩,h1,h⟩:=bind_some h
  have h1:=q_ h1
  refine tD.bind G0 S0 h1 fun H1 ι1 v e1 G1 S1 r1=>⟨k1,by simpa [Rel] using r1,?_⟩
  cases k1 with
  | true=>simp only [if_true] at h ⊢;exact⟨ι1,σd,g1,d,g',G1,S1,h,p.mono e1⟩
  | false=>simp only [Bool.false_eq_true,if_false] at h ⊢;cases h;exact p H1 ι1 _ e1 G1 (by simp [Rel]))
theorem yX (ha:DE X a fa)(hb:DE X (.BoolOp .Or (b::rest) pos) fb):DE X (.BoolOp .Or (a::b::rest) pos) (qX fa fb):=.of (
 PE.imp (FL ha.un hb.un) fun σ H Q h=>by
  obtain⟨ι,σd,g,d,g',G0,S0,h,p⟩:=h
  obtain⟨⟨k1,g1⟩,h1,h⟩:=bind_some h
  have h1:=q_ h1
  refine tD.bind G0 S0 h1 fun H1 ι1 v e1 G1 S1 r1=>⟨k1,by simpa [Rel] using r1,?_⟩
  cases k1 with
  | false=>simp only [Bool.false_eq_true,if_false] at h ⊢;exact⟨ι1,σd,g1,d,g',G1,S1,h,p.mono e1⟩
  | true=>simp only [if_true] at h ⊢;cases h;exact p H1 ι1 _ e1 G1 (by simp [Rel]))
def pM (ga:FT)(fa fb:FE):FE:=fun σ g=>(ga σ g).bind fun r=>if r.1=true then fa σ r.2 else fb σ r.2
theorem El (hc:DT X c ga)(ha:DE X a fa)(hb:DE X b fb):DE X (.IfExp c a b pos) (pM ga fa fb):=.of (
 PE.imp (xf hc.un ha.un hb.un) fun σ H Q h=>by
  obtain⟨ι,σd,g,d,g',G0,S0,h,p⟩:=h
  obtain⟨⟨k1,g1⟩,h1,h⟩:=bind_some h
  refine iF.bind G0 S0 h1 fun H1 ι1 e1 G1 S1=>?_
  cases k1 with
  | true=>simp only [if_true] at h ⊢;exact⟨ι1,σd,g1,d,g',G1,S1,h,p.mono e1⟩
  | false=>simp only [Bool.false_eq_true,if_false] at h ⊢;exact⟨ι1,σd,g1,d,g',G1,S1,h,p.mono e1⟩)
def ao:FA:=fun _ g=>some ([],g)
def af (fa:FE)(fr:FA):FA:=fun σ g=>(fa σ g).bind fun r=>(fr σ r.2).bind fun q=>some (r.1::q.1,q.2)
theorem qd:DA X [] ao:=.of (PA.imp lQ fun σ H Q h=>by
 obtain⟨ι,σd,g,d,g',G0,S0,h,p⟩:=h
 cases h;exact p H ι _ Ext.refl G0 (by simp [ag]))
theorem kq (ha:DE X e fa)(hr:DA X es fr)(hs:starEach (e::es) X.env=(false,eval e X.env)::starEach es X.env:=by rfl):DA X (e::es) (af fa fr):=.of (
 PA.imp (iP ha.un hr.un hs) fun σ H Q h=>by
  obtain⟨ι,σd,g,d,g',G0,S0,h,p⟩:=h
  obtain⟨⟨d1,g1⟩,h1,h⟩:=bind_some h
  obtain⟨⟨d2,g2⟩,h2,h⟩:=bind_some h
  cases h
  refine tD.bind G0 S0 h1 fun H1 ι1 v e1 G1 S1 r1=>?_
  refine f_.bind G1 S1 h2 fun H2 ι2 u e2 G2 S2 r2=>?_
  refine p H2 ι2 _ (e1.trans e2) G2 ?_
  simp only [ag]
  exact⟨_,_,rfl,Rel.ext e2 _ r1,r2⟩)
def aF (n:Nat):Bool:=decide (n<=16777216)
theorem aF.le {n:Nat}(h:aF n=true):n<=sizeLine:=by rw [sizeLine_eq];exact of_decide_eq_true h
def aD (ds:List D)(g:G):Option (D×G):=if aF ds.length=true then some (.tup ds,g) else none
def b8 (ds:List D)(g:G):Option (D×G):=if aF ds.length=true then some (.lst ds,g) else none
def mkRef (ds:List D)(g:G):Option (D×G):=if aF ds.length=true then some (.ref g.length,g ++ [ds]) else none
theorem yD {K H ι g ds vs d g' Q}(G0:ay K H ι g)(r:ag K H ι ds vs)(h:aD ds g=some (d,g'))(p:eh K H ι d g' Q):vs.length<=sizeLine /\ ∀q,H q=none->Q (.ref q) (upd H q (.tup vs)):=by
 unfold aD at h
 split at h
 . rename_i z
   cases h
   refine⟨by rw [<- r.length];exact aF.le z,fun q hq=>p _ _ _ (Ext.lay hq) (G0.lay hq) ?_⟩
   simp only [Rel]
   exact⟨q,vs,rfl,.inl ⟨.inl aX,G0.fresh hq⟩,ag.ext (Ext.lay hq) _ r⟩
 . cases h
theorem xU {K H ι g ds vs d g' Q}(G0:ay K H ι g)(r:ag K H ι ds vs)(h:b8 ds g=some (d,g'))(p:eh K H ι d g' Q):vs.length<=sizeLine /\ ∀q,H q=none->Q (.ref q) (upd H q (.lst vs)):=by
 unfold b8 at h
 split at h
 . rename_i z
   cases h
   refine⟨by rw [<- r.length];exact aF.le z,fun q hq=>p _ _ _ (Ext.lay hq) (G0.lay hq) ?_⟩
   simp only [Rel]
   exact⟨q,vs,rfl,.inl ⟨.inl aX,G0.fresh hq,G0.fX hq⟩,ag.ext (Ext.lay hq) _ r⟩
 . cases h
theorem yR {K H ι g ds vs d g' Q}(G0:ay K H ι g)(r:ag K H ι ds vs)(h:mkRef ds g=some (d,g'))(p:eh K H ι d g' Q):vs.length<=sizeLine /\ ∀q,H q=none->Q (.ref q) (upd H q (.lst vs)):=by
 unfold mkRef at h
 split at h
 . rename_i z
   cases h
   refine⟨by rw [<- r.length];exact aF.le z,fun q hq=>p _ _ _ (Ext.push hq) (G0.push hq r) ?_⟩
   simp only [Rel]
   exact⟨q,rfl,cS.new G0.len⟩
 . cases h
def aG (m:List D->G->Option (D×G))(fr:FA):FE:=fun σ g=>(fr σ g).bind fun r=>m r.1 r.2
theorem wz {x1}(h:DA X es fr):DE X (.Tuple es x1 pos) (aG aD fr):=.of (PE.imp (Dx h.un) fun σ H Q h=>by
 obtain⟨ι,σd,g,d,g',G0,S0,h,p⟩:=h
 obtain⟨⟨d1,g1⟩,h1,h⟩:=bind_some h
 exact f_.bind G0 S0 h1 fun H1 ι1 v e1 G1 S1 r1=>yD G1 r1 h (p.mono e1))
theorem Dq (h:DA X es fr):DE X (.List es pos) (aG b8 fr):=.of (PE.imp (uV h.un) fun σ H Q h=>by
 obtain⟨ι,σd,g,d,g',G0,S0,h,p⟩:=h
 obtain⟨⟨d1,g1⟩,h1,h⟩:=bind_some h
 exact f_.bind G0 S0 h1 fun H1 ι1 v e1 G1 S1 r1=>xU G1 r1 h (p.mono e1))
theorem wt (h:DA X es fr):DE X (.List es pos) (aG mkRef fr):=.of (PE.imp (uV h.un) fun σ H Q h=>by
 obtain⟨ι,σd,g,d,g',G0,S0,h,p⟩:=h
 obtain⟨⟨d1,g1⟩,h1,h⟩:=bind_some h
 exact f_.bind G0 S0 h1 fun H1 ι1 v e1 G1 S1 r1=>yR G1 r1 h (p.mono e1))
end
inductive F where
 | nx | rt (d:D) | bk | ct
abbrev FS:=Sg->G->Option (F×Sg×G)
def oA (K:KW)(H:Hp)(ι:Ix)(r:F)(σd':Sg)(g':G)(Dn:Ends):Prop :=
 ∀H' ι',Ext H ι H' ι'->ay K H' ι' g'->match r with
  | .nx=>∀σ',a_ K H' ι' σd' σ'->Dn.nx σ' H'
  | .bk=>∀σ',a_ K H' ι' σd' σ'->Dn.bk σ' H'
  | .ct=>∀σ',a_ K H' ι' σd' σ'->Dn.ct σ' H'
  | .rt d=>∀v,Rel K H' ι' d v->Dn.rt v H'
inductive zR (K:KW)(f:FS)(Dn:Ends)(σ:L2.St)(H:Hp):Prop
 | mk (ι:Ix) (σd:Sg) (g:G) (r:F) (σd':Sg) (g':G) (h0:ay K H ι g) (h1:a_ K H ι σd σ) (h2:f σd g=some (r,σd',g')) (h3:oA K H ι r σd' g' Dn):zR K f Dn σ H
structure DS (X:Cx)(st:Stmt)(f:FS):Prop where of ::
 un:PS X st (zR X.kw f)
structure jn (X:Cx)(sts:List Stmt)(f:FS):Prop where of ::
 un:fu X sts (zR X.kw f)
theorem PS.imp {X:Cx}{e:Stmt}{t t':TS}(h:PS X e t)(i:∀Dn σ H,t' Dn σ H->t Dn σ H):PS X e t':=fun pins s σ H Q I q=>h pins s σ H Q I (i Q σ H q)
theorem fu.imp {X:Cx}{e:List Stmt}{t t':TS}(h:fu X e t)(i:∀Dn σ H,t' Dn σ H->t Dn σ H):fu X e t':=fun pins s σ H Q I q=>h pins s σ H Q I (i Q σ H q)
theorem oA.mono {K H ι H1 ι1 r σd' g' Dn}(e:Ext H ι H1 ι1)(p:oA K H ι r σd' g' Dn):oA K H1 ι1 r σd' g' Dn:=fun H' ι' e' G'=>p H' ι' (e.trans e') G'
def aR:FS:=fun σ g=>some (.nx,σ,g)
def ax (f1 f2:FS):FS:=fun σ g=>(f1 σ g).bind fun r=>match r.1 with | .nx=>f2 r.2.1 r.2.2 | _=>some r
def aQ (f:FE):FS:=fun σ g=>(f σ g).bind fun r=>some (.rt r.1,σ,r.2)
def t9:FS:=fun σ g=>some (.ct,σ,g)
def cc (f:FE):FS:=fun σ g=>(f σ g).bind fun r=>some (.nx,σ,r.2)
def bH (c:FT)(f1 f2:FS):FS:=fun σ g=>(c σ g).bind fun r=>if r.1=true then f1 σ r.2 else f2 σ r.2
section
variable {X:Cx}{st:Stmt}{rest:List Stmt}{f1 f2:FS}{e:Expr}{fe:FE}{pos:Pos}{gc:FT}
theorem zV:jn X [] aR:=.of (fu.imp Bl fun Dn σ H h=>by
 obtain⟨ι,σd,g,r,σd',g',G0,S0,h,p⟩:=h
 cases h
 exact p H ι Ext.refl G0 σ S0)
theorem yg (h1:DS X st f1)(h2:jn X rest f2):jn X (st::rest) (ax f1 f2):=.of (fu.imp (xH h1.un h2.un) fun Dn σ H h=>by
 obtain⟨ι,σd,g,r,σd',g',G0,S0,h,p⟩:=h
 obtain⟨⟨r1,σ1,g1⟩,h1,h⟩:=bind_some h
 refine⟨ι,σd,g,r1,σ1,g1,G0,S0,h1,fun H1 ι1 e1 G1=>?_⟩
 cases r1 with
 | nx=>exact fun σ' S1=>⟨ι1,σ1,g1,r,σd',g',G1,S1,h,p.mono e1⟩
 | bk=>cases h;exact p H1 ι1 e1 G1
 | ct=>cases h;exact p H1 ι1 e1 G1
 | rt d=>cases h;exact p H1 ι1 e1 G1)
theorem A2 (h1:DS X st f1):jn X [st] f1:=.of (As h1.un)
theorem AQ:DS X (.Pass pos) aR:=.of (PS.imp Aw fun Dn σ H h=>by
 obtain⟨ι,σd,g,r,σd',g',G0,S0,h,p⟩:=h
 cases h
 exact p H ι Ext.refl G0 σ S0)
theorem Ci:DS X (.Continue pos) t9:=.of (PS.imp rq fun Dn σ H h=>by
 obtain⟨ι,σd,g,r,σd',g',G0,S0,h,p⟩:=h
 cases h
 exact p H ι Ext.refl G0 σ S0)
theorem EO (he:DE X e fe):DS X (.Return (some e) pos) (aQ fe):=.of (PS.imp (DD he.un) fun Dn σ H h=>by
 obtain⟨ι,σd,g,r,σd',g',G0,S0,h,p⟩:=h
 obtain⟨⟨d1,g1⟩,h1,h⟩:=bind_some h
 cases h
 exact tD.bind G0 S0 h1 fun H1 ι1 v e1 G1 S1 r1=>p H1 ι1 e1 G1 v r1)
theorem A1 (he:DE X e fe)(hs:swapsWith e none pos.line X.env=pure false:=by rfl):DS X (.Expr e pos) (cc fe):=.of (PS.imp (z_ he.un hs) fun Dn σ H h=>by
 obtain⟨ι,σd,g,r,σd',g',G0,S0,h,p⟩:=h
 obtain⟨⟨d1,g1⟩,h1,h⟩:=bind_some h
 cases h
 exact tD.bind G0 S0 h1 fun H1 ι1 v e1 G1 S1 r1=>p H1 ι1 e1 G1 σ S1)
theorem CM {x j pos pos'}:DS X (.Expr (.Constant (.str x) j pos) pos') aR:=.of (PS.imp Ec fun Dn σ H h=>by
 obtain⟨ι,σd,g,r,σd',g',G0,S0,h,p⟩:=h
 cases h
 exact p H ι Ext.refl G0 σ S0)
theorem GF {c:Expr}{a b:List Stmt}(hc:DT X c gc)(ha:jn X a f1)(hb:jn X b f2):DS X (.If c a b pos) (bH gc f1 f2):=.of (PS.imp (Fz hc.un ha.un hb.un) fun Dn σ H h=>by
 obtain⟨ι,σd,g,r,σd',g',G0,S0,h,p⟩:=h
 obtain⟨⟨k,g1⟩,h1,h⟩:=bind_some h
 refine iF.bind G0 S0 h1 fun H1 ι1 e1 G1 S1=>?_
 cases k with
 | true=>simp only [if_true] at h ⊢;exact⟨ι1,σd,g1,r,σd',g',G1,S1,h,p.mono e1⟩
 | false=>simp only [Bool.false_eq_true,if_false] at h ⊢;exact⟨ι1,σd,g1,r,σd',g',G1,S1,h,p.mono e1⟩)
abbrev FG:=D->Sg->G->Option (Sg×G)
abbrev kM:=List D->Sg->G->Option (Sg×G)
inductive EF (K:KW)(f:FG)(v:V)(σ:L2.St)(H:Hp)(Q:(L2.St->Hp->Prop)):Prop
 | mk (ι:Ix) (σd:Sg) (g:G) (d:D) (σd':Sg) (g':G) (h0:ay K H ι g) (h1:a_ K H ι σd σ) (h2:Rel K H ι d v) (h3:f d σd g=some (σd',g')) (h4:∀H' ι' σ',Ext H ι H' ι'->ay K H' ι' g'->a_ K H' ι' σd' σ'->Q σ' H'):EF K f v σ H Q
inductive Dv (K:KW)(f:kM)(v:List V)(σ:L2.St)(H:Hp)(Q:(L2.St->Hp->Prop)):Prop
 | mk (ι:Ix) (σd:Sg) (g:G) (d:List D) (σd':Sg) (g':G) (h0:ay K H ι g) (h1:a_ K H ι σd σ) (h2:ag K H ι d v) (h3:f d σd g=some (σd',g')) (h4:∀H' ι' σ',Ext H ι H' ι'->ay K H' ι' g'->a_ K H' ι' σd' σ'->Q σ' H'):Dv K f v σ H Q
structure DG (X:Cx)(tg:Expr)(f:FG):Prop where of ::
 un:PG X tg (EF X.kw f)
structure u9 (X:Cx)(tg:List Expr)(f:kM):Prop where of ::
 un:kN X tg (Dv X.kw f)
theorem PG.imp {X:Cx}{e:Expr}{t t':TG}(h:PG X e t)(i:∀v σ H Q,t' v σ H Q->t v σ H Q):PG X e t':=fun pins s σ H v u Q I r q=>h pins s σ H v u Q I r (i v σ H Q q)
theorem kN.imp {X:Cx}{e:List Expr}{t t':n0}(h:kN X e t)(i:∀v σ H Q,t' v σ H Q->t v σ H Q):kN X e t':=fun pins s σ H v u Q I r q=>h pins s σ H v u Q I r (i v σ H Q q)
def gN (i:Nat):FG:=fun d σ g=>some (σ.set i (some d),g)
theorem a_.set {K H ι σd σ d v}(S:a_ K H ι σd σ)(r:Rel K H ι d v)(i:Nat):a_ K H ι (σd.set i (some d)) (σ.set i (some v)):=by
 refine⟨by simp [S.1],fun j d' q=>?_⟩
 by_cases e:i=j
 . subst e
   have hi:i < σd.length:=by
    by_cases hi:i < σd.length
    . exact hi
    . rw [List.getElem?_eq_none_iff.mpr (by simpa using hi)] at q;cases q
   rw [List.getElem?_set_self hi] at q
   cases q
   exact⟨v,by rw [List.getElem?_set_self (by rw [<- S.1];exact hi)],r⟩
 . rw [List.getElem?_set_ne e] at q ⊢
   exact S.2 j d' q
theorem rO {i:Nat}{x:Str}(hN:X.N.Nodup)(hi:X.N[i]? = some x)(hx:Loc X.env.scope x)(hf:X.fn x=true\/X.env.scope.names.lookup x=some .local:=by first | exact .inl rfl | exact .inr rfl | assumption):DG X (.Name x pos) (gN i):=.of (
 PG.imp (AG hN hi hx hf) fun v σ H Q h=>by
  obtain⟨ι,σd,g,d,σd',g',G0,S0,r,h,p⟩:=h
  cases h
  exact p H ι _ Ext.refl G0 (S0.set r i))
def aK:kM:=fun ds σ g=>match ds with | []=>some (σ,g) | _=>none
def aq (t:FG)(u:kM):kM:=fun ds σ g=>match ds with | d::r=>(t d σ g).bind fun q=>u r q.1 q.2 | []=>none
theorem AH:u9 X [] aK:=.of (kN.imp Bt fun v σ H Q h=>by
 obtain⟨ι,σd,g,d,σd',g',G0,S0,r,h,p⟩:=h
 cases d with
 | nil=>cases h;simp only [ag] at r;exact⟨r,p H ι _ Ext.refl G0 S0⟩
 | cons _ _=>cases h)
theorem yu {e:Expr}{es:List Expr}{t:FG}{u:kM}(h1:DG X e t)(h2:u9 X es u)
  (hs:(assignEach (e::es) X.env).map (·.2)=assign e X.env::(assignEach es X.env).map (·.2):=by rfl):u9 X (e::es) (aq t u):=.of (kN.imp (w8 h1.un h2.un hs) fun v σ H Q h=>by
 obtain⟨ι,σd,g,d,σd',g',G0,S0,r,h,p⟩:=h
 cases d with
 | nil=>cases h
 | cons d ds =>
  simp only [ag] at r
  obtain⟨v0,vr,rfl,r0,rr⟩:=r
  obtain⟨⟨σ1,g1⟩,h1,h⟩:=bind_some h
  exact⟨v0,vr,rfl,ι,σd,g,d,σ1,g1,G0,S0,r0,h1,fun H1 ι1 σ' e1 G1 S1=>⟨ι1,σ1,g1,ds,σd',g',G1,S1,ag.ext e1 _ rr,h,fun H2 ι2 σ2 e2 G2 S2=>p H2 ι2 σ2 (e1.trans e2) G2 S2⟩⟩)
def gT (n:Nat)(t:kM):FG:=fun d σ g=>match d with | .tup xs=>if xs.length=n then t xs σ g else none | _=>none
theorem Fl {es:List Expr}{k:Nat}{t:kM}{n:Nat}(hc:X.calm=true)(h:u9 X es t)
  (hn:(assignEach es X.env).length=n:=by rfl) (hst:(assignEach es X.env).findIdx? (·.1)=none:=by rfl):DG X (.Tuple es k pos) (gT n t):=.of (PG.imp (EI hc h.un hn hst) fun v σ H Q h=>by
 obtain⟨ι,σd,g,d,σd',g',G0,S0,r,h,p⟩:=h
 cases d with
 | tup xs =>
  simp only [Rel] at r
  obtain⟨a,vs,rfl,hq,hr⟩:=r
  simp only [gT] at h
  split at h
  . rename_i z
    exact⟨a,vs,rfl,hq.sq,by rw [<- hr.length];exact z,ι,σd,g,xs,σd',g',G0,S0,hr,h,p⟩
  . cases h
 | _=>cases h)
def aA (f:FE)(t:FG):FS:=fun σ g=>(f σ g).bind fun r=>(t r.1 σ r.2).bind fun q=>some (.nx,q.1,q.2)
theorem AS {K t}{fe:FE}{Dn σ H}(h:zR K (aA fe t) Dn σ H):ym (tD K fe) (EF K t) Dn σ H:=by
 obtain⟨ι,σd,g,r,σd',g',G0,S0,h,p⟩:=h
 obtain⟨⟨d1,g1⟩,h1,h⟩:=bind_some h
 obtain⟨⟨σ1,g2⟩,h2,h⟩:=bind_some h
 cases h
 exact tD.bind G0 S0 h1 fun H1 ι1 v e1 G1 S1 r1=>⟨ι1,σd,g1,d1,σ1,g2,G1,S1,r1,h2,fun H2 ι2 σ' e2 G2 S2=>p H2 ι2 (e1.trans e2) G2 σ' S2⟩
theorem qY {tg:Expr}{t:FG}(he:DE X e fe)(hg:DG X tg t)(hs:swapsWithSole [tg] e pos.line X.env=pure false:=by rfl)(hw:swappedStores [tg] e X.env=pure none:=by rfl)
 (h1:(assignEach [tg] X.env).map (·.2) = [assign tg X.env]:=by rfl):DS X (.Assign [tg] e pos) (aA fe t):=.of (PS.imp (Eu he.un hg.un hs hw h1) fun Dn σ H h=>AS h)
theorem vC {i:Nat}{x:Str}{pos':Pos}(hN:X.N.Nodup)(hi:X.N[i]? = some x)(hx:Loc X.env.scope x)(he:DE X e fe)(hs:swapsWith e (some (.Name x pos')) pos.line X.env=pure false:=by rfl)(hf:X.fn x=true\/X.env.scope.names.lookup x=some .local:=by first | exact .inl rfl | exact .inr rfl | assumption) :
  DS X (.Assign [.Name x pos'] e pos) (aA fe (gN i)):=.of (PS.imp (Ep hN hi hx he.un hs hf) fun Dn σ H h=>by
 obtain⟨ι,σd,g,r,σd',g',G0,S0,h,p⟩:=h
 obtain⟨⟨d1,g1⟩,h1,h⟩:=bind_some h
 cases h
 exact tD.bind G0 S0 h1 fun H1 ι1 v e1 G1 S1 r1=>p H1 ι1 e1 G1 _ (S1.set r1 i))
def putD (o i v:D)(g:G):Option G:=match o,i with
 | .ref n,.int k=>match g[n]? with
  | some xs=>match gY xs.length k with
   | some j=>some (g.set n (xs.set j v))
   | none=>none
  | none=>none
 | _,_=>none
end
abbrev FI:=Sg->G->Option (List D×G)
structure gA (H:Hp)(ι:Ix)(H':Hp)(ι':Ix):Prop where
 same:∀a o,H a=some o->a ∉ ι.ix->H' a=some o
 there:∀a,H a≠none->H' a≠none
 more:∃m,ι'.ix=ι.ix++m /\ ∀a∈m,H a=none
 hid:∃hs,ι'.hd=hs++ι.hd /\ ∀b∈hs,H b=none
 kds:∀i,i < ι.ix.length->ι'.kd i=ι.kd i
theorem Ext.dm {H ι H1 ι1}(e:Ext H ι H1 ι1):gA H ι H1 ι1:=⟨e.same,e.there,e.more,⟨[],e.hid,fun _ z=>by simp at z⟩,e.kds⟩
theorem gA.old {H ι H1 ι1}(a:gA H ι H1 ι1){c:Addr}{o:HO}(h:H c=some o)(n:c ∉ ι.ix):c ∉ ι1.ix:=fun z=>by
 obtain⟨m1,e1,f1⟩:=a.more
 rw [e1] at z
 rcases List.mem_append.mp z with z | z
 . exact n z
 . rw [f1 c z] at h;cases h
theorem gA.DJ {H ι H1 ι1}(a:gA H ι H1 ι1){c:Addr}{o:HO}(h:H c=some o)(n:c ∉ ι.hd):c ∉ ι1.hd:=fun z=>by
 obtain⟨m1,e1,f1⟩:=a.hid
 rw [e1] at z
 rcases List.mem_append.mp z with z | z
 . rw [f1 c z] at h;cases h
 . exact n z
theorem gA.at {H ι H1 ι1}(a:gA H ι H1 ι1){i:Nat}{c:Addr}{b:Bool}(h:cS ι i c b):cS ι1 i c b:=by
 obtain⟨m1,e1,_⟩:=a.more
 have hl:=(List.getElem?_eq_some_iff.mp h.1).1
 refine⟨?_,by rw [a.kds i hl];exact h.2⟩
 rw [e1,List.getElem?_append_left hl];exact h.1
theorem hU.dm {K H ι H1 ι1 a xs}(e:gA H ι H1 ι1)(h:hU K H ι a xs):hU K H1 ι1 a xs:=by
 rcases h with⟨h | ⟨o,h⟩,n,k⟩ | h
 . exact .inl ⟨.inl (e.same _ _ h n),e.old h n,e.DJ h k⟩
 . exact .inl ⟨.inr ⟨o,e.same _ _ h n⟩,e.old h n,e.DJ h k⟩
 . exact .inr h
theorem ip.dm {K H ι H1 ι1 a xs}(e:gA H ι H1 ι1)(h:ip K H ι a xs):ip K H1 ι1 a xs:=by
 rcases h with⟨h | ⟨o,h⟩,n⟩ | h
 . exact .inl ⟨.inl (e.same _ _ h n),e.old h n⟩
 . exact .inl ⟨.inr ⟨o,e.same _ _ h n⟩,e.old h n⟩
 . exact .inr h
mutual
theorem Rel.dm {K H ι H1 ι1}(e:gA H ι H1 ι1):∀(d:D) {v:V},Rel K H ι d v->Rel K H1 ι1 d v
 | .non,v,h=>by simpa [Rel] using h
 | .bl _,v,h=>by simpa [Rel] using h
 | .int _,v,h=>by simpa [Rel] using h
 | .str _,v,h=>by simpa [Rel] using h
 | .tup xs,v,h=>by
  simp only [Rel] at h ⊢
  obtain⟨a,vs,e1,hq,hr⟩:=h
  exact⟨a,vs,e1,hq.dm e,ag.dm e xs hr⟩
 | .lst xs,v,h=>by
  simp only [Rel] at h ⊢
  obtain⟨a,vs,e1,hq,hr⟩:=h
  exact⟨a,vs,e1,hq.dm e,ag.dm e xs hr⟩
 | .edc,v,h=>by
  simp only [Rel] at h ⊢
  obtain⟨a,e1,hq,hr⟩:=h
  exact⟨a,e1,e.same _ _ hq hr,e.old hq hr⟩
 | .ref n,v,h=>by
  simp only [Rel] at h ⊢
  obtain⟨a,e1,hq⟩:=h
  exact⟨a,e1,e.at hq⟩
 | .aI n,v,h=>by
  simp only [Rel] at h ⊢
  obtain⟨a,e1,hq⟩:=h
  exact⟨a,e1,e.at hq⟩
 | .fn x,v,h=>by simpa [Rel] using h
theorem ag.dm {K H ι H1 ι1}(e:gA H ι H1 ι1):∀(ds:List D) {vs:List V},ag K H ι ds vs->ag K H1 ι1 ds vs
 | [],vs,h=>by simpa [ag] using h
 | d::ds,vs,h=>by
  simp only [ag] at h ⊢
  obtain⟨v,vr,e1,hq,hr⟩:=h
  exact⟨v,vr,e1,Rel.dm e d hq,ag.dm e ds hr⟩
end
def fK (K:KW)(J:It)(H:Hp)(ι:Ix)(ds:List D):Prop :=
 ∀(i:Nat) H1 ι1 g1,gA H ι H1 ι1->ay K H1 ι1 g1->(ds.length<=i->J.stop i H1) /\ ∀d,ds[i]? = some d->J.go i H1 /\ ∀x H2,J.yld i H1 x H2->Ext H1 ι1 H2 ι1/\ay K H2 ι1 g1/\Rel K H2 ι1 d x
inductive Hf (K:KW)(f:FI)(σ:L2.St)(H:Hp)(R:(It->Hp->Prop)):Prop
 | mk (ι:Ix) (σd:Sg) (g:G) (ds:List D) (g':G) (h0:ay K H ι g) (h1:a_ K H ι σd σ) (h2:f σd g=some (ds,g')) (h3:∀H' ι' J,Ext H ι H' ι'->ay K H' ι' g'->fK K J H' ι' ds->R J H'):Hf K f σ H R
structure DI (X:Cx)(tg iter:Expr)(f:FI):Prop where of ::
 un:PI X tg iter (Hf X.kw f)
theorem PI.imp {X:Cx}{tg e:Expr}{t t':TI}(h:PI X tg e t)(i:∀σ H Q,t' σ H Q->t σ H Q):PI X tg e t':=fun pins s σ H Q I q=>h pins s σ H Q I (i σ H Q q)
theorem fK.lst {K H ι a vs ds}(hq:hU K H ι a vs)(hr:ag K H ι ds vs):fK K (zd K a) H ι ds:=fun i H1 ι1 g1 e1 G1 =>
 ⟨fun hl=>⟨vs,(hq.dm e1).sq,by rw [<- hr.length];exact hl⟩,fun d hd=>by
  obtain⟨v,hv,rv⟩:=(ag.dm e1 _ hr).get hd
  refine⟨⟨vs,v,(hq.dm e1).sq,hv⟩,fun x H2 y=>?_⟩
  obtain⟨rfl,y⟩:=y
  have:=y vs (hq.dm e1).sq
  rw [hv] at this;cases this
  exact⟨Ext.refl,G1,rv⟩⟩
theorem fK.JC {K H ι a vs ds}(hq:ip K H ι a vs)(hr:ag K H ι ds vs):fK K (E4 K a) H ι ds:=fun i H1 ι1 g1 e1 G1 =>
 ⟨fun hl=>⟨vs,(hq.dm e1).sq,by rw [<- hr.length];exact hl⟩,fun d hd=>by
  obtain⟨v,hv,rv⟩:=(ag.dm e1 _ hr).get hd
  refine⟨⟨vs,v,(hq.dm e1).sq,hv⟩,fun x H2 y=>?_⟩
  obtain⟨rfl,y⟩:=y
  have:=y vs (hq.dm e1).sq
  rw [hv] at this;cases this
  exact⟨Ext.refl,G1,rv⟩⟩
theorem fK.dA {K H ι}{lo:Int}{n:Nat}:fK K (wo lo n) H ι ((List.range n).map fun(k:Nat)=>D.int (lo+k)):=fun i H1 ι1 g1 e1 G1 =>
 ⟨fun hl=>(by show n<=i;simpa using hl),fun d hd=>by
  have hi:i<n:=by
   have:=(List.getElem?_eq_some_iff.mp hd).1
   simpa using this
  refine⟨hi,fun x H2 y=>?_⟩
  obtain⟨rfl,rfl⟩:=y
  have e:d=D.int (lo+i):=by simpa [List.getElem?_map,List.getElem?_range hi] using hd.symm
  subst e
  exact⟨Ext.refl,G1,by simp [Rel]⟩⟩
section
variable {X:Cx}{tg l a b:Expr}{fe:FE}{fr:FA}{pos p:Pos}
def oO (f:FE):FI:=fun σ g=>(f σ g).bind fun r=>match r.1 with | .tup xs=>some (xs,r.2) | _=>none
def oC (f:FE):FI:=fun σ g=>(f σ g).bind fun r=>match r.1 with | .lst xs=>some (xs,r.2) | _=>none
theorem C_ (hl:DE X l fe):DI X tg l (oO fe):=.of (PI.imp (EK hl.un) fun σ H Q h=>by
 obtain⟨ι,σd,g,ds,g',G0,S0,h,p⟩:=h
 obtain⟨⟨d1,g1⟩,h1,h⟩:=bind_some h
 cases d1 with
 | tup xs =>
  cases h
  refine tD.bind G0 S0 h1 fun H1 ι1 v e1 G1 S1 r1=>?_
  simp only [Rel] at r1
  obtain⟨a,vs,rfl,hq,hr⟩:=r1
  exact⟨a,rfl,⟨vs,hq.sq⟩,p H1 ι1 _ e1 G1 (.JC hq hr)⟩
 | _=>cases h)
theorem B0 (hl:DE X l fe):DI X tg l (oC fe):=.of (PI.imp (sd hl.un) fun σ H Q h=>by
 obtain⟨ι,σd,g,ds,g',G0,S0,h,p⟩:=h
 obtain⟨⟨d1,g1⟩,h1,h⟩:=bind_some h
 cases d1 with
 | lst xs =>
  cases h
  refine tD.bind G0 S0 h1 fun H1 ι1 v e1 G1 S1 r1=>?_
  simp only [Rel] at r1
  obtain⟨a,vs,rfl,hq,hr⟩:=r1
  exact⟨a,rfl,⟨vs,hq.sq⟩,p H1 ι1 _ e1 G1 (.lst hq hr)⟩
 | _=>cases h)
def fF (i:Int):Bool:=Nat.ble i.natAbs 4611686018427387903
theorem fF.and {i:Int}(h:fF i=true):-(2 ^ 62)<=i/\i<2 ^ 62:=by
 have:=Nat.le_of_ble_eq_true h
 omega
theorem fF.of {i:Int}(h1:-1000000<=i)(h2:i<=1000000):fF i=true:=Nat.ble_eq_true_of_le (by omega)
def gy (fr:FA):FI:=fun σ g=>(fr σ g).bind fun r=>match r.1 with | [.int j]=>if fF j=true then some ((List.range j.toNat).map fun(k:Nat)=>D.int (0+k),r.2) else none | _=>none
def Hv (fr:FA):FI:=fun σ g=>(fr σ g).bind fun r=>match r.1 with | [.int i,.int j]=>if(fF i&&fF j)=true then some ((List.range (j-i).toNat).map fun(k:Nat)=>D.int (i+k),r.2) else none | _=>none
theorem GP (hg:Gl X "range")(hm:X.mg "range" = none)(ha:DA X [a] fr)(hs:starEach [a] X.env = [(false,eval a X.env)]:=by rfl):DI X tg (.Call (.Name "range" p) [a] [] pos) (gy fr):=.of (
 PI.imp (wJ hg hm ha.un hs) fun σ H Q h=>by
  obtain⟨ι,σd,g,ds,g',G0,S0,h,p⟩:=h
  obtain⟨⟨d1,g1⟩,h1,h⟩:=bind_some h
  refine f_.bind G0 S0 h1 fun H1 ι1 v e1 G1 S1 r1=>?_
  dsimp only at h
  split at h
  . rename_i j
    split at h
    . rename_i z
      cases h
      simp only [ag,Rel] at r1
      obtain⟨_,_,rfl,rfl,rfl⟩:=r1
      exact⟨j,rfl,(fF.and z).1,(fF.and z).2,p H1 ι1 _ e1 G1 .dA⟩
    . cases h
  . cases h)
theorem Fy (hg:Gl X "range")(hm:X.mg "range" = none)(ha:DA X [a,b] fr)(hs:starEach [a,b] X.env = [(false,eval a X.env),(false,eval b X.env)]:=by rfl)(hs2:starEach [b] X.env = [(false,eval b X.env)]:=by rfl):DI X tg (.Call (.Name "range" p) [a,b] [] pos) (Hv fr):=.of (
 PI.imp (vP hg hm ha.un hs hs2) fun σ H Q h=>by
  obtain⟨ι,σd,g,ds,g',G0,S0,h,p⟩:=h
  obtain⟨⟨d1,g1⟩,h1,h⟩:=bind_some h
  refine f_.bind G0 S0 h1 fun H1 ι1 v e1 G1 S1 r1=>?_
  dsimp only at h
  split at h
  . rename_i i j
    split at h
    . rename_i z
      rw [Bool.and_eq_true] at z
      cases h
      simp only [ag,Rel] at r1
      obtain⟨_,_,rfl,rfl,_,_,rfl,rfl,rfl⟩:=r1
      exact⟨i,j,rfl,⟨(fF.and z.1).1,(fF.and z.1).2,(fF.and z.2).1,(fF.and z.2).2⟩,p H1 ι1 _ e1 G1 .dA⟩
    . cases h
  . cases h)
def forL (t:FG)(b:FS):List D->FS
 | [],σ,g=>some (.nx,σ,g)
 | d::ds,σ,g=>(t d σ g).bind fun q=>(b q.1 q.2).bind fun r=>match r.1 with
  | .nx=>forL t b ds r.2.1 r.2.2
  | .ct=>forL t b ds r.2.1 r.2.2
  | .bk=>some (.nx,r.2.1,r.2.2)
  | .rt d=>some (.rt d,r.2.1,r.2.2)
def cI (i:FI)(t:FG)(b:FS):FS:=fun σ g=>(i σ g).bind fun r=>forL t b r.1 σ r.2
inductive xw (X:Cx)(t:FG)(b:FS)(ds:List D)(H1:Hp)(ι1:Ix)(r:F)(σd':Sg)(g':G)(i:Nat)(σ2:L2.St)(H2:Hp):Prop
 | mk (ι2:Ix) (σd2:Sg) (g2:G) (e2:Ext H1 ι1 H2 ι2) (G2:ay X.kw H2 ι2 g2) (S2:a_ X.kw H2 ι2 σd2 σ2) (hf:forL t b (ds.drop i) σd2 g2=some (r,σd',g')):xw X t b ds H1 ι1 r σd' g' i σ2 H2
theorem Er {iter:Expr}{body:List Stmt}{fi:FI}{t:FG}{b:FS}(hp:PassesOwn (model X.prog X.w) X.A X.env X.xe)(hc:X.calm=true)(hi:DI X tg iter fi)(hg:DG X tg t)(hb:jn X body b)
   (hs:∀x,foldedSetIterable iter X.env x=pure x:=by intro _;rfl):DS X (.For tg iter body [] pos) (cI fi t b):=.of (PS.imp (BP hp hc hi.un hg.un hb.un hs) fun Dn σ H h=>by
 obtain⟨ι,σd,g,r,σd',g',G0,S0,h,p⟩:=h
 obtain⟨⟨ds,g1⟩,h1,h⟩:=bind_some h
 refine⟨ι,σd,g,ds,g1,G0,S0,h1,fun H1 ι1 J e1 G1 J1=>?_⟩
 dsimp only at h
 refine⟨fun i m σ2 H2=>m=ds.length-i/\i<=ds.length/\xw X t b ds H1 ι1 r σd' g' i σ2 H2,
   ⟨ds.length,by simp,Nat.zero_le _,ι1,σd,g1,Ext.refl,G1,S0.ext e1,by simpa using h⟩,?_⟩
 rintro i m σ2 H2 ⟨rfl,hi,ι2,σd2,g2,e2,G2,S2,hf⟩
 obtain⟨st,go⟩:=J1 i H2 ι2 g2 e2.dm G2
 by_cases hlt:i<ds.length
 . rw [List.drop_eq_getElem_cons hlt] at hf
   simp only [forL] at hf
   obtain⟨⟨σ3,g3⟩,h3,hf⟩:=bind_some hf
   obtain⟨⟨r4,σ4,g4⟩,h4,hf⟩:=bind_some hf
   obtain⟨go,yl⟩:=go ds[i] (List.getElem?_eq_getElem hlt)
   refine .inr ⟨go,fun σ5 H5=>xw X t b ds H1 ι1 r σd' g' (i+1) σ5 H5,?_,?_⟩
   . rintro σ5 H5 ⟨ι5,σd5,g5,e5,G5,S5,h5⟩
     exact⟨ds.length-(i+1),by omega,rfl,hlt,ι5,σd5,g5,e5,G5,S5,h5⟩
   . intro x H' y
     obtain⟨e3,G3,r3⟩:=yl x H' y
     refine⟨ι2,σd2,g2,ds[i],σ3,g3,G3,S2.ext e3,r3,h3,fun H6 ι6 σ6 e6 G6 S6=>?_⟩
     refine⟨ι6,σ3,g3,r4,σ4,g4,G6,S6,h4,fun H7 ι7 e7 G7=>?_⟩
     have eall:=e2.trans (e3.trans (e6.trans e7))
     cases r4 with
     | nx=>exact fun σ' S7=>⟨ι7,σ4,g4,eall,G7,S7,hf⟩
     | ct=>exact fun σ' S7=>⟨ι7,σ4,g4,eall,G7,S7,hf⟩
     | bk=>cases hf;exact fun σ' S7=>p H7 ι7 (e1.trans eall) G7 σ' S7
     | rt d=>cases hf;exact fun v r7=>p H7 ι7 (e1.trans eall) G7 v r7
 . have e:i=ds.length:=by omega
   subst e
   simp only [List.drop_length,forL] at hf
   cases hf
   exact .inl ⟨st (Nat.le_refl _),p H2 ι2 (e1.trans e2) G2 σ2 S2⟩)
def fJ (c:FT)(b:FS):Nat->FS
 | 0,_,_=>none
 | n+1,σ,g=>(c σ g).bind fun k=>if k.1=true then(b σ k.2).bind fun r=>match r.1 with
   | .nx=>fJ c b n r.2.1 r.2.2
   | .ct=>fJ c b n r.2.1 r.2.2
   | .bk=>some (.nx,r.2.1,r.2.2)
   | .rt d=>some (.rt d,r.2.1,r.2.2)
  else some (.nx,σ,k.2)
def iE (n:Nat)(c:FT)(b:FS):FS:=fJ c b n
inductive CA (X:Cx)(gc:FT)(b:FS)(H:Hp)(ι:Ix)(r:F)(σd':Sg)(g':G)(m:Nat)(σ2:L2.St)(H2:Hp):Prop
 | mk (ι2:Ix) (σd2:Sg) (g2:G) (e2:Ext H ι H2 ι2) (G2:ay X.kw H2 ι2 g2) (S2:a_ X.kw H2 ι2 σd2 σ2) (hf:fJ gc b m σd2 g2=some (r,σd',g')):CA X gc b H ι r σd' g' m σ2 H2
theorem yn {c:Expr}{body:List Stmt}{gc:FT}{b:FS}(n:Nat)(hp:PassesOwn (model X.prog X.w) X.A X.env X.xe)(hc:DT X c gc)(hb:jn X body b):DS X (.While c body [] pos) (iE n gc b):=.of (PS.imp (yj hp hc.un hb.un) fun Dn σ H h=>by
 obtain⟨ι,σd,g,r,σd',g',G0,S0,h,p⟩:=h
 refine⟨CA X gc b H ι r σd' g',⟨n,ι,σd,g,Ext.refl,G0,S0,h⟩,?_⟩
 rintro m σ2 H2 ⟨ι2,σd2,g2,e2,G2,S2,hf⟩
 cases m with
 | zero=>cases hf
 | succ m =>
  simp only [fJ] at hf
  obtain⟨⟨k,g3⟩,h3,hf⟩:=bind_some hf
  refine iF.bind G2 S2 h3 fun H3 ι3 e3 G3 S3=>?_
  cases k with
  | false =>
   simp only [Bool.false_eq_true,if_false] at hf ⊢
   cases hf
   exact p H3 ι3 (e2.trans e3) G3 σ2 S3
  | true =>
   simp only [if_true] at hf ⊢
   obtain⟨⟨r4,σ4,g4⟩,h4,hf⟩:=bind_some hf
   refine⟨CA X gc b H ι r σd' g' m,fun σ5 H5 q=>⟨m,Nat.lt_succ_self _,q⟩,?_⟩
   refine⟨ι3,σd2,g3,r4,σ4,g4,G3,S3,h4,fun H7 ι7 e7 G7=>?_⟩
   have eall:=e2.trans (e3.trans e7)
   cases r4 with
   | nx=>exact fun σ' S7=>⟨ι7,σ4,g4,eall,G7,S7,hf⟩
   | ct=>exact fun σ' S7=>⟨ι7,σ4,g4,eall,G7,S7,hf⟩
   | bk=>cases hf;exact fun σ' S7=>p H7 ι7 eall G7 σ' S7
   | rt d=>cases hf;exact fun v r7=>p H7 ι7 eall G7 v r7)
end
abbrev Fn:=List D->G->Option (D×G)
def jG (K:KW)(n:Nat)(fn:Fn):Sp:=fun vs H Q _=>vs.length=n /\ ∃ι g ds d g',ay K H ι g/\ag K H ι ds vs/\fn ds g=some (d,g')/\eh K H ι d g' Q
mutual
def bp (n:Nat):D->Bool
 | .ref k=>decide (k<n)
 | .aI k=>decide (k<n)
 | .tup xs=>aT n xs
 | .lst xs=>aT n xs
 | _=>true
def aT (n:Nat):List D->Bool
 | []=>true
 | d::ds=>bp n d&&aT n ds
end
def settle (n:Nat)(d:D)(g':G):Option (D×G) :=
 if g'.length=n then some (d,g') else
  if(g'.take n).all (aT n) then
   match d with
   | .ref k=>if k<n then some (d,g'.take n) else match g'[k]? with
    | some xs=>if aT n xs then some (.lst xs,g'.take n) else none
    | none=>none
   | d=>if bp n d then some (d,g'.take n) else none
  else none
def aJ (keep:Bool)(nN nP:Nat)(b:FS):Fn:=fun ds g =>
 if ds.length=nP then(b (ds.map some++List.replicate (nN-nP) none) g).bind fun r=>match r.1 with
  | .rt d=>if keep then some (d,r.2.2) else settle g.length d r.2.2
  | .nx=>if keep then some (.non,r.2.2) else settle g.length .non r.2.2
  | _=>none
 else none
def Ix.cut (ι:Ix)(n:Nat):Ix:=⟨ι.ix.take n,ι.hd,ι.kd⟩
mutual
theorem Rel.cut {K H ι}(n:Nat):∀(d:D) {v:V},bp n d=true->Rel K H ι d v->Rel K H (Ix.cut ι n) d v
 | .non,v,_,h=>by simpa [Rel] using h
 | .bl _,v,_,h=>by simpa [Rel] using h
 | .int _,v,_,h=>by simpa [Rel] using h
 | .str _,v,_,h=>by simpa [Rel] using h
 | .tup xs,v,z,h=>by
  simp only [Rel] at h ⊢
  obtain⟨a,vs,e1,hq,hr⟩:=h
  refine⟨a,vs,e1,?_,ag.cut n xs z hr⟩
  rcases hq with⟨hq,hn⟩ | hq
  . exact .inl ⟨hq,fun m=>hn (List.mem_of_mem_take m)⟩
  . exact .inr hq
 | .lst xs,v,z,h=>by
  simp only [Rel] at h ⊢
  obtain⟨a,vs,e1,hq,hr⟩:=h
  refine⟨a,vs,e1,?_,ag.cut n xs z hr⟩
  rcases hq with⟨hq,hn,hh⟩ | hq
  . exact .inl ⟨hq,fun m=>hn (List.mem_of_mem_take m),hh⟩
  . exact .inr hq
 | .edc,v,_,h=>by
  simp only [Rel] at h ⊢
  obtain⟨a,e1,hq,hr⟩:=h
  exact⟨a,e1,hq,fun m=>hr (List.mem_of_mem_take m)⟩
 | .ref k,v,z,h=>by
  simp only [Rel] at h ⊢
  obtain⟨a,e1,hq⟩:=h
  have z':k<n:=of_decide_eq_true z
  exact⟨a,e1,by show(ι.ix.take n)[k]? = some a;rw [List.getElem?_take_of_lt z'];exact hq.1,hq.2⟩
 | .aI k,v,z,h=>by
  simp only [Rel] at h ⊢
  obtain⟨a,e1,hq⟩:=h
  have z':k<n:=of_decide_eq_true z
  exact⟨a,e1,by show(ι.ix.take n)[k]? = some a;rw [List.getElem?_take_of_lt z'];exact hq.1,hq.2⟩
 | .fn x,v,_,h=>by simpa [Rel] using h
theorem ag.cut {K H ι}(n:Nat):∀(ds:List D) {vs:List V},aT n ds=true->ag K H ι ds vs->ag K H (Ix.cut ι n) ds vs
 | [],vs,_,h=>by simpa [ag] using h
 | d::ds,vs,z,h=>by
  simp only [ag] at h ⊢
  simp only [aT,Bool.and_eq_true] at z
  obtain⟨v,vr,e1,hq,hr⟩:=h
  exact⟨v,vr,e1,Rel.cut n d z.1 hq,ag.cut n ds z.2 hr⟩
end
theorem ay.cut {K H ι g}(n:Nat)(h:ay K H ι g)(z:(g.take n).all (aT n)=true):ay K H (Ix.cut ι n) (g.take n):=by
 refine⟨h.nd.sublist (List.take_sublist _ _),by simp [Ix.cut,h.len],fun b hb=>⟨fun m=>(h.hid b hb).1 (List.mem_of_mem_take m),(h.hid b hb).2⟩,fun i xs q=>?_⟩
 have hi:i<n:=by
  have:=(List.getElem?_eq_some_iff.mp q).1
  rw [List.length_take] at this;omega
 rw [List.getElem?_take_of_lt hi] at q
 obtain⟨a,o,vs,h1,h2,ov,h3⟩:=h.at_ i xs q
 refine⟨a,o,vs,(by show(ι.ix.take n)[i]? = some a;rw [List.getElem?_take_of_lt hi];exact h1),h2,ov,ag.cut n xs ?_ h3⟩
 exact List.all_eq_true.mp z xs (List.mem_of_getElem? (i:=i) (by rw [List.getElem?_take_of_lt hi];exact q))
theorem Ext.cut {H ι H' ι' n}(e:Ext H ι H' ι')(hn:ι.ix.length=n):Ext H ι H' (Ix.cut ι' n):=by
 obtain⟨m,e1,f⟩:=e.more
 refine⟨e.same,e.there,⟨[],?_,fun _ z=>by simp at z⟩,e.hid,e.kds⟩
 subst hn
 show ι'.ix.take _=_
 rw [e1];simp
theorem wK {K H ι g H' ι' g' d g'' dd v}(G0:ay K H ι g)(e:Ext H ι H' ι')(G1:ay K H' ι' g')(r:Rel K H' ι' d v)(h:settle g.length d g'=some (dd,g'')) :
   ∃ι'',Ext H ι H' ι''/\ay K H' ι'' g''/\Rel K H' ι'' dd v:=by
 unfold settle at h
 split at h
 . cases h;exact⟨ι',e,G1,r⟩
 split at h
 . rename_i z
   refine⟨Ix.cut ι' g.length,e.cut G0.len,?_⟩
   have Gc:=G1.cut g.length z
   split at h
   . rename_i k
     split at h
     . rename_i hk
       cases h
       exact⟨Gc,Rel.cut _ _ (decide_eq_true hk) r⟩
     . rename_i hk
       split at h
       . rename_i xs hx
         split at h
         . rename_i hz
           cases h
           refine⟨Gc,?_⟩
           simp only [Rel] at r ⊢
           obtain⟨a,rfl,ha⟩:=r
           obtain⟨vs,hv,hr⟩:=G1.at hx ha
           refine⟨a,vs,rfl,.inl ⟨.inl hv,fun m=>?_,fun m=>(G1.hid a m).1 (List.mem_of_getElem? ha.1)⟩,ag.cut _ _ hz hr⟩
           obtain⟨j,hj,ej⟩:=List.mem_iff_getElem.mp (show a∈ι'.ix.take g.length from m)
           have hjl:j<g.length:=by rw [List.length_take] at hj;omega
           have hj':j < ι'.ix.length:=by rw [List.length_take] at hj;omega
           rw [List.getElem_take] at ej
           obtain⟨hk',ek⟩:=List.getElem?_eq_some_iff.mp ha.1
           have:j=k:=(List.getElem_inj G1.nd).mp (ej.trans ek.symm)
           omega
         . cases h
       . cases h
   . split at h
     . rename_i hz
       cases h
       exact⟨Gc,Rel.cut _ _ hz r⟩
     . cases h
 . cases h
section
variable {P:Program}{w:World}{K:KW}{mg:Str->Option Value}{base:Heap}
theorem A7 {k n f fd ps}{fn:Fn}(hn:∀ds g,fn ds g=none):cV P K.w K.fr K.mg base gC k f fd ps (jG K n fn) :=
 ⟨fun vs H Q E ⟨_,ι,g,ds,d,g',_,_,h,_⟩=>(by rw [hn] at h;cases h),fun A outer s H args us vs Q E _ _ _ _ ⟨_,ι,g,ds,d,g',_,_,h,_⟩=>(by rw [hn] at h;cases h)⟩
theorem t8 {K H ι ds vs}{N:List Str}(r:ag K H ι ds vs)(hl:ds.length<=N.length):a_ K H ι (ds.map some++List.replicate (N.length-ds.length) none) (L2.start N vs):=by
 have e:=r.length
 refine⟨by unfold L2.start;simp [e],fun i d q=>?_⟩
 have hi:i<ds.length:=by
  by_cases hi:i<ds.length
  . exact hi
  . rw [List.getElem?_append_right (by simpa using hi),List.getElem?_replicate] at q
    split at q<;>cases q
 rw [List.getElem?_append_left (by simpa using hi),List.getElem?_map] at q
 cases hd:ds[i]? with
 | none=>rw [hd] at q;cases q
 | some d' =>
  rw [hd] at q;cases q
  obtain⟨v,hv,rv⟩:=r.get hd
  refine⟨v,?_,rv⟩
  unfold L2.start
  rw [List.getElem?_append_left (by rw [List.length_map,<- e];exact hi),List.getElem?_map,hv];rfl
theorem FU {x qual:Str}{st:Stmt}{f:Addr}{fd:FuncData}{N ps:List Str}{k:Nat}{keep:Bool}{b:FS}(F:sD K.fr x qual st f fd)(S:gO N ps (bz st))(hN:ps.length<=N.length)
  (hb:∀(cdv:Value) (A:Around) (outer:List Env) (s:Shared) (H:Hp) (E:XK),aC k (A.deeper (envOfC qual (bz st) s.heap.objs.size f cdv)) ->
   jn (jM gC P K.w K.fr K.mg base N qual (bz st) f cdv A outer s H E).sT (dI st) b):cV P K.w K.fr K.mg base gC (k+1) f fd ps (jG K ps.length (aJ keep N.length ps.length b)):=by
 refine F.ok S (fun vs H Q E h=>h.1) (fun cdv A outer s H vs Q E hr h=>?_)
 obtain⟨hl,ι,g,ds,d,g',G0,r,h,p⟩:=h
 refine⟨_,(hb cdv A outer s H E hr).un,?_⟩
 unfold aJ at h
 have hds:ds.length=ps.length:=by rw [r.length];exact hl
 rw [if_pos hds] at h
 obtain⟨⟨r1,σ1,g1⟩,h1,h⟩:=bind_some h
 refine⟨ι,_,g,r1,σ1,g1,G0,t8 r (by rw [hds];exact hN),by rw [hds];exact h1,fun H1 ι1 e1 G1=>?_⟩
 have fin:∀{dd v},Rel K H1 ι1 dd v->(if keep then some (dd,g1) else settle g.length dd g1)=some (d,g')->Q v H1:=fun {dd v} rv hh=>by
  cases keep with
  | true=>simp only [if_true] at hh;cases hh;exact p H1 ι1 v e1 G1 rv
  | false =>
   simp only [Bool.false_eq_true,if_false] at hh
   obtain⟨ι2,e2,G2,r2⟩:=wK G0 e1 G1 rv hh
   exact p H1 ι2 v e2 G2 r2
 cases r1 with
 | rt dd=>exact fun v rv=>fin rv h
 | nx=>exact fun σ' S'=>fin (v:=.non) (by simp [Rel]) h
 | bk=>cases h
 | ct=>cases h
end
section
variable {X:Cx}{x:Str}{p pos:Pos}{e:Expr}{es:List Expr}{fr:FA}{k:Nat}{f:Addr}{fd:FuncData}{ps:List Str}{fn:Fn}{n:Nat}
def au (fn:Fn)(fr:FA):FE:=fun σ g=>(fr σ g).bind fun r=>fn r.1 r.2
theorem qb {K}{n:Nat}(hn:∀ds g r,fn ds g=some r->ds.length=n){σ:L2.St}{H:Hp}{Q:VK}(h:tD K (au fn fr) σ H Q):tK (jG K n fn) [] E0 (f_ K fr) σ H Q:=by
 obtain⟨ι,σd,g,d,g',G0,S0,h,p⟩:=h
 obtain⟨⟨ds,g1⟩,h1,h⟩:=bind_some h
 refine f_.bind G0 S0 h1 fun H1 ι1 vs e1 G1 S1 r1=>?_
 rw [List.append_nil]
 exact⟨by rw [<- r1.length];exact hn _ _ _ h,ι1,g1,ds,d,g',G1,r1,h,p.mono e1⟩
theorem Bd (F:cV X.prog X.w X.kw X.mg X.base gC k f fd ps (jG X.kw n fn))(hr:aC k X.A)(hm:X.mg x=some (.ref f))(hk:PySem.W.keepIn X.kw (.ref f)=true)(hb:Binds X.kw fd ps [])(hn:∀ds g r,fn ds g=some r->ds.length=n)
  (ha:DA X (e::es) fr) (hg:Gl X x:=by rfl) (hdb:(x == ("__debug__":Str))=false:=by decide) (he:starEach (e::es) X.env=(false,eval e X.env)::starEach es X.env:=by rfl) (hpl:(backTo pos (starEach es X.env)).any (·.1)=false:=by rfl) :
  DE X (.Call (.Name x p) (e::es) [] pos) (au fn fr):=.of (
 PE.imp (An F hr hg hm hk hb .nil zp ha.un hdb he hpl) fun σ H Q h=>qb hn h)
theorem w6 (F:cV X.prog X.w X.kw X.mg X.base gC k f fd ps (jG X.kw n fn))(hr:aC k X.A)(hm:X.mg x=some (.ref f))(hk:PySem.W.keepIn X.kw (.ref f)=true)(hb:Binds X.kw fd ps [])(hn:∀ds g r,fn ds g=some r->ds.length=n)
  (hg:Gl X x:=by rfl) (hdb:(x == ("__debug__":Str))=false:=by decide) :
  DE X (.Call (.Name x p) [] [] pos) (au fn ao):=.of (
 PE.imp (xO F hr hg hm hk hb .nil zp hdb) fun σ H Q h=>by
  have q:=qb hn h
  obtain⟨ι,σd,g,d,g',G0,S0,h,p⟩:=q
  cases h
  exact p H ι [] Ext.refl G0 (by simp [ag]))
theorem nI {keep:Bool}{nN nP:Nat}{b:FS}:∀ds g r,aJ keep nN nP b ds g=some r->ds.length=nP:=fun ds g r h=>by
 unfold aJ at h
 split at h
 . assumption
 . cases h
theorem yA {id:String}{o:Fn}(hc:b7 X (.builtin id) (fI X.kw o))(hm:X.mg x=none)(hv:bootBuiltins x=some (.builtin id))(ha:DA X (e::es) fr)(hg:Gl X x:=by rfl)(hn:x ≠ "__name__":=by decide)(hdb:(x == ("__debug__":Str))=false:=by decide)
  (he:starEach (e::es) X.env=(false,eval e X.env)::starEach es X.env:=by rfl) (hpl:(backTo pos (starEach es X.env)).any (·.1)=false:=by rfl):DE X (.Call (.Name x p) (e::es) [] pos) (au o fr):=.of (
 PE.imp (qw hc hg hm hv ha.un hn hdb he hpl) fun σ H Q h=>by
  obtain⟨ι,σd,g,d,g',G0,S0,h,p⟩:=h
  obtain⟨⟨ds,g1⟩,h1,h⟩:=bind_some h
  exact f_.bind G0 S0 h1 fun H1 ι1 vs e1 G1 S1 r1=>⟨ι1,g1,ds,d,g',G1,r1,h,p.mono e1⟩)
theorem vI {T:String}{o:Fn}(hc:b7 X (.type T) (fI X.kw o))(hm:X.mg x=none)(hv:bootBuiltins x=some (.type T))(ha:DA X (e::es) fr)(hg:Gl X x:=by rfl)(hn:x ≠ "__name__":=by decide)(hdb:(x == ("__debug__":Str))=false:=by decide)
  (he:starEach (e::es) X.env=(false,eval e X.env)::starEach es X.env:=by rfl) (hpl:(backTo pos (starEach es X.env)).any (·.1)=false:=by rfl):DE X (.Call (.Name x p) (e::es) [] pos) (au o fr):=.of (
 PE.imp (wg hc hg hm hv ha.un hn hdb he hpl) fun σ H Q h=>by
  obtain⟨ι,σd,g,d,g',G0,S0,h,p⟩:=h
  obtain⟨⟨ds,g1⟩,h1,h⟩:=bind_some h
  exact f_.bind G0 S0 h1 fun H1 ι1 vs e1 G1 S1 r1=>⟨ι1,g1,ds,d,g',G1,r1,h,p.mono e1⟩)
end
def gp (scope:Scope)(env:Env):List (Str×Addr):=(scope.names.filterMap fun x=>if x.2 == .free then(env.cells.lookup x.1).map fun c=>(x.1,c) else none).reverse
theorem gr {scope:Scope}{env:Env}(h:∀x∈scope.names,x.2 = .free->∃c,env.cells.lookup x.1=some c):closureFor scope env=pure (gp scope env):=by
 have key:∀(l:List (Str×NameKind)) (acc:List (Str×Addr)),(∀x∈l,x.2 = .free->∃c,env.cells.lookup x.1=some c) ->
   (forIn l acc fun x r=>if(x.2 == NameKind.free)=true then(do let c <- cellOf env x.1;pure (ForInStep.yield ((x.1,c)::r))) else pure (ForInStep.yield r):Sem (List (Str×Addr))) =
     pure ((l.filterMap fun x=>if x.2 == .free then(env.cells.lookup x.1).map fun c=>(x.1,c) else none).reverse++acc):=by
  intro l
  induction l with
  | nil=>intro acc _;rfl
  | cons x r ih =>
   intro acc hx
   rw [List.forIn_cons]
   by_cases hk:x.2 = .free
   . obtain⟨c,hc⟩:=hx x List.mem_cons_self hk
     have hb:(x.2 == NameKind.free)=true:=by rw [hk];rfl
     rw [if_pos hb]
     simp only [cellOf,hc,pure_bind,List.filterMap_cons,hb,if_true,Option.map_some,List.reverse_cons,List.append_assoc,List.singleton_append]
     exact ih _ fun y hy=>hx y (List.mem_cons_of_mem _ hy)
   . have hb:(x.2 == NameKind.free)=false:=by simpa using hk
     simp only [hb,Bool.false_eq_true,if_false,pure_bind,List.filterMap_cons]
     exact ih _ fun y hy=>hx y (List.mem_cons_of_mem _ hy)
 have:=key scope.names [] h
 rw [List.append_nil] at this
 unfold closureFor gp
 simp only [bind_pure_comp] at this ⊢
 first
  | (simpa using this)
  | exact this
def aW (X:Cx)(N:List Str)(scope:Scope)(C:Addr)(s3:Shared)(H:Hp)(fp:List Addr)(pins:List (Addr×Obj)):Cx where
 prog:=X.prog
 w:=X.w
 K:=X.kw
 mg:=X.mg
 base:=X.base
 A:=X.A
 N:=N
 s₀:=s3
 H₀:=H
 env:=compEnvC scope (gp scope X.env) C X.env
 outer:=X.stack
 stack:=X.stack
 ex:=fp
 calm:=X.calm
 fn:=fun _=>false
 pn:=X.pn++pins
 xe:=fun _ _=>False
structure dq (X:Cx)(N:List Str)(fr:List (Option Nat))(scope:Scope):Prop where
 kind:scope.kind = .function
 nocell:∀y∈scope.names,y.2 ≠ .cell
 names:∀y∈scope.names,y.2 = .local->scope.names.lookup y.1=some .local
 free:∀y∈scope.names,y.2 = .free->scope.names.lookup y.1=some .free/\(X.env.kindOf y.1=some .cell\/X.env.kindOf y.1=some .free)
 len:fr.length=N.length
 slots:∀(j i:Nat),fr[j]? = some (some i)->∃x,N[j]? = some x/\X.N[i]? = some x/\scope.names.lookup x=some .free
def bu {α:Type}(fr:List (Option Nat))(σ:List (Option α)):List (Option α):=fr.map fun o=>match o with | some i=>(σ[i]?).join | none=>none
theorem qV {scope:Scope}{env:Env}:(relabel scope env).kind=scope.kind:=rfl
theorem xX {scope:Scope}{env:Env}{x:Str}{c:Addr}(h:(x,c)∈gp scope env):(x,NameKind.free)∈scope.names/\env.cells.lookup x=some c:=by
 unfold gp at h
 rw [List.mem_reverse,List.mem_filterMap] at h
 obtain⟨y,hy,e⟩:=h
 split at e
 . rename_i hk
   cases hc:env.cells.lookup y.1 with
   | none=>rw [hc] at e;cases e
   | some c' =>
    rw [hc] at e
    cases e
    have:y.2=NameKind.free:=by simpa using hk
    exact⟨by rw [<- this];exact hy,hc⟩
 . cases e
theorem jq {α:Type}:∀{l:List (Str×α)} {x:Str} {c:α},(x,c)∈l->∃d,l.lookup x=some d
 | [],_,_,h=>nomatch h
 | (y,d)::r,x,c,h=>by
  by_cases e:x=y
  . subst e;exact⟨d,by simp⟩
  . rcases List.mem_cons.mp h with z | z
    . cases z;exact absurd rfl e
    . obtain⟨d',q⟩:=jq z
      exact⟨d',by rw [List.lookup_cons];simp [show(x == y)=false by simpa using e,q]⟩
theorem dH {scope:Scope}{env:Env}{x:Str}{c:Addr}(h:(gp scope env).lookup x=some c):(x,NameKind.free)∈scope.names/\env.cells.lookup x=some c:=xX (PySem.mem_of_lookup h)
theorem oY {scope:Scope}{env:Env}{x:Str}{c:Addr}(hx:(x,NameKind.free)∈scope.names)(hc:env.cells.lookup x=some c):(gp scope env).lookup x=some c:=by
 have m:(x,c)∈gp scope env:=by
  unfold gp
  rw [List.mem_reverse,List.mem_filterMap]
  exact⟨_,hx,by simp [hc]⟩
 obtain⟨d,q⟩:=jq m
 have:=(dH q).2
 rw [hc] at this;cases this
 exact q
theorem pH {scope:Scope}{env:Env}{x:Str}(h:(relabel scope env).names.lookup x=some .cell\/(relabel scope env).names.lookup x=some .free)(hn:∀y∈scope.names,y.2 ≠ .cell):(x,NameKind.free)∈scope.names:=by
 have m:∃k,(x,k)∈(relabel scope env).names/\(k = .cell\/k = .free):=by
   rcases h with h | h
   . exact⟨_,PySem.mem_of_lookup h,.inl rfl⟩
   . exact⟨_,PySem.mem_of_lookup h,.inr rfl⟩
 obtain⟨k,m,hk⟩:=m
 unfold relabel at m
 rw [List.mem_map] at m
 obtain⟨⟨n,k'⟩,hm,e⟩:=m
 dsimp only at e
 split at e
 . rename_i z
   cases e
   simp only [Bool.and_eq_true] at z
   have:k'=NameKind.free:=by simpa using z.1.1
   subst this
   exact hm
 . cases e
   rcases hk with rfl | rfl
   . exact absurd rfl (hn _ hm)
   . exact hm
theorem fG {env:Env}:∀{names:List (Str×NameKind)} {x:Str},names.lookup x=some .free ->
  (names.map fun(n,k)=>if(k == NameKind.free&&env.scope.kind == .function&&env.kindOf n == some .cell) then(n,NameKind.cell) else(n,k)).lookup x=some .cell \/
  (names.map fun(n,k)=>if(k == NameKind.free&&env.scope.kind == .function&&env.kindOf n == some .cell) then(n,NameKind.cell) else(n,k)).lookup x=some .free
 | [],_,h=>by simp at h
 | (n,k)::r,x,h=>by
  have ih:=@fG env r x
  show List.lookup x ((if(k == NameKind.free&&env.scope.kind == .function&&env.kindOf n == some .cell)=true then(n,NameKind.cell) else(n,k))::_)=_\/List.lookup x ((if(k == NameKind.free&&env.scope.kind == .function&&env.kindOf n == some .cell)=true then(n,NameKind.cell) else(n,k))::_)=_
  cases hx:x == n with
  | true =>
   simp only [List.lookup_cons,hx] at h
   cases h
   split
   . left;simp [List.lookup_cons,hx]
   . right;simp [List.lookup_cons,hx]
  | false =>
   simp only [List.lookup_cons,hx] at h
   split
   . simp only [List.lookup_cons,hx];exact ih h
   . simp only [List.lookup_cons,hx];exact ih h
section
variable {X:Cx}{pins:List (Addr×Obj)}{σ:L2.St}{H:Hp}{s3:Shared}
theorem i3 {N:List Str}{fr:List (Option Nat)}{scope:Scope}{fp:List Addr}{h1:Heap}{tk:Nat}(ok:dq X N fr scope)(I:Inv X pins σ H s3)(hf:∀b∈fp,cM X pins H b)(hfl:∀b∈fp,b<s3.heap.objs.size)
   (hns:h1.Ns s3.heap.objs.size fun _=>none) (hk:∀b o,s3.heap.get? b=some o->h1.get? b=some o) :
   Inv (aW X N scope s3.heap.objs.size s3 H fp pins) [] (bu fr σ) H { s3 with heap:=h1,toks:=tk }:=by
 have I1:Inv X pins σ H { s3 with heap:=h1,toks:=tk }:=I.kept hk
 have stk:∀b∈jw X.stack,b∈X.env.locals::X.fs:=I.qW
 refine⟨⟨I.ok.mod,?_,I.ok.glob,I.ok.blt,Nat.le_refl _,?_,?_,(fun x c z=>Bool.noConfusion (show false=true from z)),I.ok.hd,I.ok.frames,.inl rfl,?_,I.bs,Nat.le_trans I.ok.bsz I.sz,?_,?_,I.stack,I.sH⟩,rfl,I.bare,Un.kept hk,
   ⟨_,hns,?_⟩,?_,I.hok.fresh (Nat.le_refl _),?_,?_,I1.hok,?_⟩
 . show(relabel scope X.env).kind = .function
   rw [qV];exact ok.kind
 . intro x y c h1 h2
   exact I.ok.inj x y c (dH h1).2 (dH h2).2
 . intro x hx
   have m:=pH (scope:=scope) (env:=X.env) hx ok.nocell
   obtain⟨c,hc⟩:=I.ok.has x (ok.free _ m rfl).2
   exact⟨c,oY m hc⟩
 . intro b hb
   refine⟨Nat.ne_of_lt (hfl b hb),fun x c e=>?_⟩
   exact(hf b hb).2.2.2.2.1 x c (dH e).2
 . intro b o e hb
   obtain⟨_,_,_,z,_⟩:=hf b hb
   rcases z with z | z
   . exact I.ok.noex b o e z
   . exact absurd (Nat.lt_of_lt_of_le (Nat.lt_of_lt_of_le (Heap.lt_size e) I.ok.bsz) z) (Nat.lt_irrefl _)
 . intro b hb z
   obtain⟨_,n1,n2,_⟩:=hf b hb
   rcases List.mem_cons.mp (stk b z) with q | q
   . exact n1 q
   . exact n2 q
 . intro j x v h1 h2 h3
   have h2':(bu fr σ)[j]? = some (some v):=h2
   unfold bu at h2'
   rw [List.getElem?_map] at h2'
   cases hfr:fr[j]? with
   | none=>rw [hfr] at h2';cases h2'
   | some o =>
     rw [hfr] at h2'
     cases o with
     | none=>cases h2'
     | some i =>
       obtain⟨y,hy,hi,hfree⟩:=ok.slots j i hfr
       have e:x=y:=by
         have h1':N[j]? = some x:=h1
         rw [hy] at h1';cases h1';rfl
       subst e
       have hσ:σ[i]? = some (some v):=by
         simp only [Option.map_some,Option.some.injEq] at h2'
         cases q:σ[i]? with
         | none=>rw [q] at h2';cases h2'
         | some w=>rw [q] at h2';simp at h2';rw [h2']
       have m:=PySem.mem_of_lookup hfree
       obtain⟨_,hkind⟩:=ok.free _ m rfl
       obtain⟨mm,hn,hl⟩:=I1.loc
       obtain⟨u,ru,lk⟩:=hl i x v hi hσ (by rcases hkind with k | k;exact .inr (.inl k);exact .inr (.inr k))
       refine⟨u,ru,.inr ⟨fG hfree,?_⟩⟩
       rcases lk with⟨kl,_⟩ | ⟨_,c,hc,hcell⟩
       . rcases hkind with k | k<;>(rw [k] at kl;cases kl)
       . exact⟨c,oY m hc,hcell⟩
 . intro x c e
   exact I1.cell x c (dH e).2
 . intro x c e
   exact I.freeC x c (dH e).2
 . intro p hp
   have hp':p∈X.pn++pins:=by
     have q:p∈(X.pn++pins) ++ []:=hp
     simpa using q
   obtain⟨e,n,ne,nf,d⟩:=I1.pin p hp'
   refine⟨e,n,Nat.ne_of_lt ?_,fun z=>?_,d⟩
   . exact Heap.lt_size (I.pin p hp').1
   . rcases List.mem_cons.mp (stk _ z) with q | q
     . exact ne q
     . exact nf q
 . show(bu fr σ).length=N.length
   unfold bu;rw [List.length_map];exact ok.len
end
def bW (t:FG)(c:FT)(e:FE):List D->Sg->G->Option (List D×G)
 | [],_,g=>some ([],g)
 | d::ds,σ,g=>(t d σ g).bind fun q=>(c q.1 q.2).bind fun k=>if k.1=true then(e q.1 k.2).bind fun r=>(bW t c e ds q.1 r.2).bind fun z=>some (r.1::z.1,z.2) else bW t c e ds q.1 k.2
def Ig (X:Cx)(ifs:List Expr)(t:TT):Prop :=
 ∀(pins:List (Addr×Obj)) (s:Shared) (σ:L2.St) (H:Hp) (Q:Bool->Hp->Prop),Inv X pins σ H s->t σ H Q ->
  wpAny (model X.prog X.w) X.A (forIn ifs true fun c r=>if r=true then do let ok <- isTrue c X.env (eval c X.env);pure (ForInStep.yield ok) else pure (ForInStep.yield r)) (TP X pins σ Q) X.xe s
structure dY (X:Cx)(ifs:List Expr)(f:FT):Prop where of ::
 un:Ig X ifs (iF X.kw f)
def bC:FT:=fun _ g=>some (true,g)
theorem xR {X:Cx}:dY X [] bC:=.of (fun pins s σ H Q I h=>by
 obtain⟨ι,σd,g,b,g',G0,S0,h,p⟩:=h
 cases h
 exact wpAny_tests_nil ⟨H,I,p H ι Ext.refl G0⟩)
theorem xh {X:Cx}{c:Expr}{f:FT}(h:DT X c f):dY X [c] f:=.of (fun pins s σ H Q I q=>wpAny_tests_one (h.un pins s σ H Q I q))
theorem Ext.j9 {H1 ι1 H' ιo p H'' ι''}(a:Ext H1 ι1 H' ιo)(b:Ext H' (Ix.hide ιo p) H'' ι''):Ext H1 ι1 H'' ⟨ι''.ix,ιo.hd,ι''.kd⟩/\ι''=Ix.hide ⟨ι''.ix,ιo.hd,ι''.kd⟩ p:=by
 have hh:ι''.hd=p::ιo.hd:=b.hid
 obtain⟨m1,e1,f1⟩:=a.more
 obtain⟨m2,e2,f2⟩:=b.more
 refine⟨⟨fun c o h n=>b.same c o (a.same c o h n) (a.old h n),fun c h=>b.there c (a.there c h),⟨m1++m2,?_,fun c z=>?_⟩,a.hid,fun i hi=>(b.kds i (show i < ιo.ix.length by rw [e1,List.length_append];omega)).trans (a.kds i hi)⟩,?_⟩
 . show ι''.ix=_
   rw [e2];show ιo.ix++m2=_
   rw [e1,List.append_assoc]
 . rcases List.mem_append.mp z with z | z
   . exact f1 c z
   . cases q:H1 c with
     | none=>rfl
     | some o=>exact absurd (f2 c z) (a.there c (by rw [q];simp))
 . cases ι'' with
   | mk ix hd kd=>dsimp only at hh;rw [hh];rfl
theorem Ext.ki {H1 ι1 H' ιo p o}(a:Ext H1 ι1 H' ιo)(hp:H1 p=none):Ext H1 ι1 (upd H' p o) ιo :=
 ⟨fun c u h n=>by rw [aN (bS h hp)];exact a.same c u h n,fun c h=>by
  by_cases e:c=p
  . subst e;rw [aX];simp
  . rw [aN e];exact a.there c h,a.more,a.hid,a.kds⟩
theorem Ext.xm {H1 ι1 H' ιo p}(a:Ext H1 ι1 H' ιo)(hp:H1 p=none):gA H1 ι1 H' (Ix.hide ιo p) :=
 ⟨a.same,a.there,a.more,⟨[p],by show p::ιo.hd=_;rw [a.hid];rfl,fun b z=>by simp at z;subst z;exact hp⟩,a.kds⟩
inductive CompI (X':Cx)(t:FG)(c:FT)(e:FE)(fp:List Addr)(Dl:Addr)(tn:Nat->Heap->Prop)(ds all:List D)(H1:Hp)(ι1:Ix)(g':G)(n:Nat)(s:Shared):Prop
 | mk (i:Nat) (σ:L2.St) (H:Hp) (ιo:Ix) (σd:Sg) (g:G) (vs:List V) (acc more:List D) (hn:n=ds.length+1-i) (hil:i<=ds.length) (I:Inv X' [] σ H s) (ti:tn i s.heap) (fri:∀b∈fp,H b=none) (E1:Ext H1 ι1 H ιo) (G1:ay X'.kw H (Ix.hide ιo Dl) g) (S1:a_ X'.kw H (Ix.hide ιo Dl) σd σ)
  (hHD:H Dl=some (.lst vs)) (racc:ag X'.kw H (Ix.hide ιo Dl) acc vs) (hal:acc.length<=i) (hf:bW t c e (ds.drop i) σd g=some (more,g')) (ea:all=acc++more):CompI X' t c e fp Dl tn ds all H1 ι1 g' n s
theorem vb {X':Cx}{tg iter elt:Expr}{ifs:List Expr}{scope:Scope}{pos:Pos}{t:FG}{c:FT}{e:FE}{J:It}{fp:List Addr}{it Dl:Addr}{tn:Nat->Heap->Prop}{ds all:List D}{H1:Hp}{ι1:Ix}{g':G}{R:Result->Shared->Prop}
   (hxe:X'.xe=fun _ _=>False) (hc:X'.calm=true) (T:Turn X'.prog X'.w X'.kw tg J fp it tn) (hfp:∀b∈fp,cM X' [] X'.H₀ b) (J1:fK X'.kw J H1 ι1 ds) (hD:H1 Dl=none) (hz:ds.length<=sizeLine)
   (hg:DG X' tg t) (hi:dY X' ifs c) (he:DE X' elt e)
   (fin:∀s' σ' H' ιo vs,Inv X' [] σ' H' s'->(∀b∈fp,H' b=none)->Ext H1 ι1 H' ιo->ay X'.kw H' (Ix.hide ιo Dl) g'->H' Dl=some (.lst vs)->ag X'.kw H' (Ix.hide ιo Dl) all vs->R (.ok .next) s') :
   ∀(s:Shared) (σ:L2.St) (H:Hp) (ιo:Ix) (σd:Sg) (g:G),Inv X' [] σ H s->tn 0 s.heap->(∀b∈fp,H b=none)->Ext H1 ι1 H ιo->ay X'.kw H (Ix.hide ιo Dl) g->a_ X'.kw H (Ix.hide ιo Dl) σd σ->H Dl=some (.lst [])->bW t c e ds σd g=some (all,g') ->
    codeAny (model X'.prog X'.w) X'.A (.compLoop (.ListComp elt [⟨tg,iter,ifs,0⟩] scope pos) 0 (.ref it) (.ref Dl) X'.env) R s:=by
 intro s σ H ιo σd g I t0 fr0 E0 G0 S0 hH hf0
 have stat:∀{H':Hp},(∀b∈fp,H' b=none)->∀b∈fp,cM X' [] H' b:=fun hn b hb=>⟨hn b hb,(hfp b hb).2⟩
 refine codeAny_loop rfl (CompI X' t c e fp Dl tn ds all H1 ι1 g') ?_ (ds.length+1)
   ⟨0,σ,H,ιo,σd,g,[],[],all,rfl,Nat.zero_le _,I,t0,fr0,E0,G0,S0,hH,by simp [ag],Nat.le_refl _,by simpa using hf0,rfl⟩
 clear hf0 hH S0 G0 E0 fr0 t0 I g σd ιo H σ s
 rintro n s ⟨i,σ,H,ιo,σd,g,vs,acc,more,rfl,hil,I,ti,fri,E1,G1,S1,hHD,racc,hal,hf,rfl⟩
 show wpAny _ X'.A ((compTurn (.ListComp elt [⟨tg,iter,ifs,0⟩] scope pos) 0 (.ref it) (.ref Dl) X'.env).onRaise (fun x=>do noteFrame x X'.env;theTreesLotGoes x)) _ _ s
 refine wpAny_noted ?_
 rw [compTurn_list]
 refine wpAny_bind (wpAny_standAt (wpAny_bind ?_))
 obtain⟨st,go⟩:=J1 i H (Ix.hide ιo Dl) g (E1.xm hD) G1
 by_cases hlt:i<ds.length
 . obtain⟨go,yl⟩:=go ds[i] (List.getElem?_eq_getElem hlt)
   refine aU (T.item X' rfl rfl rfl hc i [] s σ H _ I (stat fri) ti go) fun r s4 ⟨u,hr,h4⟩=>?_
   subst hr
   refine wpAny_bind (aU h4 fun _ s5 ⟨x,H5,I5,r5,y5,t5,fr5⟩=>?_)
   obtain⟨e5,G5,rd5⟩:=yl x H5 y5
   rw [List.drop_eq_getElem_cons hlt] at hf
   simp only [bW] at hf
   obtain⟨⟨σ6,g6⟩,h6,hf⟩:=bind_some hf
   obtain⟨⟨k7,g7⟩,h7,hf⟩:=bind_some hf
   have I5':=I5.pinned (stat fr5) (T.obj _ _ t5)
   have lift:∀{α:Type} {tr:Sem α} {Q:α->Shared->Prop} {E:Value->Shared->Prop} {s:Shared},wpAny (model X'.prog X'.w) X'.A tr Q X'.xe s->wpAny (model X'.prog X'.w) X'.A tr Q E s:=fun h=>wpAny_mono h (fun _ _ q=>q) fun _ _ z=>by rw [hxe] at z;exact z.elim
   have again:∀{s9:Shared} {σ9:L2.St} {H9:Hp} {ι9:Ix} {σd9:Sg} {g9:G} {vs9:List V} {acc9:List D} {more9:List D},Inv X' ([]++hG fp s5.heap) σ9 H9 s9->Ext H1 ι1 H9 ι9->ay X'.kw H9 (Ix.hide ι9 Dl) g9->a_ X'.kw H9 (Ix.hide ι9 Dl) σd9 σ9 ->
     H9 Dl=some (.lst vs9)->ag X'.kw H9 (Ix.hide ι9 Dl) acc9 vs9->acc9.length<=i+1->bW t c e (ds.drop (i+1)) σd9 g9=some (more9,g')->acc++more=acc9++more9 ->
     ∃m,m<ds.length+1-i/\CompI X' t c e fp Dl tn ds (acc++more) H1 ι1 g' m s9:=by
    intro s9 σ9 H9 ι9 σd9 g9 vs9 acc9 more9 I9 E9 G9 S9 h9 r9 l9 f9 a9
    refine⟨ds.length+1-(i+1),by omega,i+1,σ9,H9,ι9,σd9,g9,vs9,acc9,more9,rfl,hlt,I9.fR,T.keep _ _ _ t5 fun b hb o e=>(I9.pin (b,o) (List.mem_append_right _ (List.mem_append_right _ (cZ hb e)))).1,fun b hb=>?_,E9,G9,S9,h9,r9,l9,f9,a9⟩
    obtain⟨o,e,d⟩:=T.obj _ _ t5 b hb
    exact(I9.pin (b,o) (List.mem_append_right _ (List.mem_append_right _ (cZ hb e)))).2.1
   refine wpAny_bind (lift (aU (hg.un _ s5 σ H5 x u (fun σ' H'=>∃ι6,Ext H5 (Ix.hide ιo Dl) H' ι6/\ay X'.kw H' ι6 g6/\a_ X'.kw H' ι6 σ6 σ') I5' r5 ⟨Ix.hide ιo Dl,σd,g,ds[i],σ6,g6,G5,S1.ext e5,rd5,h6,fun H6 ι6 σ6' e6 G6 S6=>⟨ι6,e6,G6,S6⟩⟩) fun _ s6 q6=>?_))
   obtain⟨σ6',H6,I6,ι6,e6,G6,S6⟩:=q6
   refine wpAny_bind (lift (aU (hi.un _ s6 σ6' H6 (fun b H'=>b=k7 /\ ∃ι7,Ext H6 ι6 H' ι7/\ay X'.kw H' ι7 g7) I6 ⟨ι6,σ6,g6,k7,g7,G6,S6,h7,fun H7 ι7 e7 G7=>⟨rfl,ι7,e7,G7⟩⟩) fun ok s7 q7=>?_))
   obtain⟨H7,I7,rfl,ι7,e7,G7⟩:=q7
   have e57:=(e5.trans e6).trans e7
   obtain⟨E7,ei7⟩:=E1.j9 e57
   have hD7:H7 Dl=some (.lst vs):=e57.same Dl _ hHD (G1.hid Dl List.mem_cons_self).1
   have r7:=ag.ext e57 _ racc
   have S7:=S6.ext e7
   cases ok with
   | false =>
    simp only [Bool.false_eq_true,if_false] at hf
    refine wpAny_pure ⟨rfl,?_⟩
    rw [ei7] at G7 S7 r7
    exact again I7 E7 G7 S7 hD7 r7 (by omega) hf rfl
   | true =>
    simp only [if_true] at hf
    obtain⟨⟨d8,g8⟩,h8,hf⟩:=bind_some hf
    obtain⟨⟨more9,g9⟩,h9,hf⟩:=bind_some hf
    obtain⟨rfl,rfl⟩:d8::more9=more/\g9=g':=by cases hf;exact⟨rfl,rfl⟩
    refine wpAny_bind (wpAny_bind (lift (aU (he.un _ s7 σ6' H7 (fun v H'=>∃ι8,Ext H7 ι7 H' ι8/\ay X'.kw H' ι8 g8/\Rel X'.kw H' ι8 d8 v) I7 ⟨ι7,σ6,g7,d8,g8,G7,S7,h8,fun H8 ι8 v e8 G8 r8=>⟨ι8,e8,G8,r8⟩⟩) fun y s8 q8=>?_)))
    obtain⟨v8,H8,I8,rv8,ι8,e8,G8,r8⟩:=q8
    have e58:=e57.trans e8
    obtain⟨E8,ei8⟩:=E1.j9 e58
    have hD8:H8 Dl=some (.lst vs):=e58.same Dl _ hHD (G1.hid Dl List.mem_cons_self).1
    have racc8:=ag.ext e58 _ racc
    have S8:=S7.ext e8
    have hlen:vs.length<sizeLine:=by rw [<- racc.length];omega
    rw [ei8] at G8 S8 racc8 r8
    refine wpAny_bind (lift (aU (iq (X:=X') _ s8 σ6' H8 (.ref Dl) [v8] (.ref Dl) [y] (fun _ H'=>H'=upd H8 Dl (.lst (vs ++ [v8]))) I8 rfl (.cons rv8 .nil) ⟨Dl,vs,v8,rfl,rfl,hD8,hlen,rfl⟩) fun _ s9 q9=>?_))
    obtain⟨_,H9,I9,_,rfl⟩:=q9
    refine wpAny_pure (wpAny_pure ⟨rfl,?_⟩)
    refine again (acc9:=acc ++ [d8]) I9 (E8.ki hD) (G8.grow hD8) ⟨S8.1,fun j d q=>let⟨v,a,b⟩:=S8.2 j d q;⟨v,a,Rel.grow hD8 d b⟩⟩ aX ?_ (by simp;omega) h9 (by simp)
    exact ag.append (ag.grow hD8 _ racc8) (by simp only [ag];exact⟨v8,[],rfl,Rel.grow hD8 _ r8,rfl⟩)
 . have ei:i=ds.length:=by omega
   subst ei
   simp only [List.drop_length,bW] at hf
   cases hf
   refine aU (T.done X' rfl rfl rfl hc _ [] s σ H _ I (stat fri) ti (st (Nat.le_refl _))) fun r s4 ⟨hr,I4⟩=>?_
   subst hr
   exact wpAny_pure (fin s4 σ H ιo vs I4 fri E1 G1 hHD (by simpa using racc))
def bU (mk:List D->G->Option (D×G))(fi:FI)(fr:List (Option Nat))(t:FG)(c:FT)(e:FE):FE:=fun σ g=>(fi σ g).bind fun r=>if aF r.1.length=true then(bW t c e r.1 (bu fr σ) r.2).bind fun q=>mk q.1 q.2 else none
def bB (ds:List D)(g:G):Option (D×G):=some (.lst ds,g)
theorem a_.sub {K H ι σd σ}(fr:List (Option Nat))(h:a_ K H ι σd σ):a_ K H ι (bu fr σd) (bu fr σ):=by
 refine⟨by simp [bu],fun j d q=>?_⟩
 unfold bu at q ⊢
 rw [List.getElem?_map] at q ⊢
 cases hf:fr[j]? with
 | none=>rw [hf] at q;cases q
 | some o =>
  rw [hf] at q
  cases o with
  | none=>cases q
  | some i =>
   have hσ:σd[i]? = some (some d):=by
    simp only [Option.map_some,Option.some.injEq] at q
    cases z:σd[i]? with
    | none=>rw [z] at q;cases q
    | some w=>rw [z] at q;simp at q;rw [q]
   obtain⟨v,hv,rv⟩:=h.2 i d hσ
   exact⟨v,by simp [hv],rv⟩
section
variable {X:Cx}{tg iter elt:Expr}{ifs:List Expr}{scope:Scope}{pos cpos:Pos}{N:List Str}{fr:List (Option Nat)}{fi:FI}{t:FG}{c:FT}{e:FE}
theorem nQ {pins:List (Addr×Obj)}{s:Shared}{σ:L2.St}{H:Hp}{ι:Ix}{σd:Sg}{g g1 g':G}{ds all:List D}{use:Option (Value->Sem Unit)}{Q:Value->Shared->Prop}
  (hxe:X.xe=fun _ _=>False) (hc:X.calm=true) (ok:dq X N fr scope) (hit:DI X tg iter fi) (hin:∀C s3 H fp pins,DG (aW X N scope C s3 H fp pins) tg t/\dY (aW X N scope C s3 H fp pins) ifs c/\DE (aW X N scope C s3 H fp pins) elt e)
  (hs:∀x,foldedSetIterable iter X.env x=pure x) (I:Inv X pins σ H s) (G0:ay X.kw H ι g) (S0:a_ X.kw H ι σd σ) (h1:fi σd g=some (ds,g1)) (hz:aF ds.length=true) (h2:bW t c e ds (bu fr σd) g1=some (all,g'))
  (fin:∀s' H' ιo vs Dl C,Inv X pins σ H' s'->cM X pins H' C->(∃m,s'.heap.Ns C m)->Ext H ι H' ιo->ay X.kw H' (Ix.hide ιo Dl) g'->H' Dl=some (.lst vs)->ag X.kw H' (Ix.hide ιo Dl) all vs->Dl ∉ ιo.hd->H Dl=none->compPost (model X.prog X.w) X.A X.xe use Q (.ref Dl) C (.ok .next) s') :
  wpAny (model X.prog X.w) X.A (comprehension (.ListComp elt [⟨tg,iter,ifs,0⟩] scope pos) scope X.env cpos (newList []) false (eval iter X.env) use) Q X.xe s:=by
 have free:∀x∈scope.names,x.2 = .free->∃c,X.env.cells.lookup x.1=some c:=fun x hx hk=>I.ok.has x.1 (ok.free x hx hk).2
 refine wpAny_comprehension_free (use:=use) rfl hs (gr free) ok.kind ok.names (aU (hit.un pins s σ H (fun J H'=>∃ι1,Ext H ι H' ι1/\ay X.kw H' ι1 g1/\fK X.kw J H' ι1 ds) I ⟨ι,σd,g,ds,g1,G0,S0,h1,fun H1 ι1 J e1 G1 J1=>⟨ι1,e1,G1,J1⟩⟩) fun xv s1 h1'=>aU h1' fun itv s2 q2=>?_)
 obtain⟨it,fp,tn,J,H1,rfl,I1,T,t1,f1,ι1,e1,G1,J1⟩:=q2
 refine wpAny_newObj_type ?_
 have hDn:H1 s2.heap.objs.size=none:=I1.hok.fresh (Nat.le_refl _)
 generalize hs3:({ s2 with heap:=s2.heap.push { cls:=.type "list",dict:=none,data:=.seq ([]:List Value).toArray } }:Shared)=s3
 have I3:Inv X pins σ (upd H1 s2.heap.objs.size (.lst [])) s3:=by
  rw [<- hs3]
  exact I1.laid (t':=s2.toks) (fun b u e=>Heap.get?_push_of_some _ e) (Nat.le_refl _) ⟨Nat.zero_le _,[],0,.nil,Heap.get?_push_size _ rfl⟩
 have k3:∀b o,s2.heap.get? b=some o->s3.heap.get? b=some o:=fun b o e=>by rw [<- hs3];exact Heap.get?_push_of_some _ e
 have sz3:s3.heap.objs.size=s2.heap.objs.size+1:=by rw [<- hs3];exact Heap.size_push ..
 have hfl:∀b∈fp,b<s2.heap.objs.size:=fun b hb=>let⟨o,eo,_⟩:=T.obj _ _ t1 b hb;Heap.lt_size eo
 have f3:∀b∈fp,cM X pins (upd H1 s2.heap.objs.size (.lst [])) b:=fun b hb=>⟨by rw [aN (Nat.ne_of_lt (hfl b hb))];exact(f1 b hb).1,(f1 b hb).2⟩
 refine wpAny_newFunctionEnv ok.nocell (by intro y hy;simp at hy) (fun h4 hns hsb=>?_) ok.kind
 have k4:∀b o,s3.heap.get? b=some o->h4.get? b=some o:=fun b o e=>hsb.extBut b o (Nat.ne_of_lt (Heap.lt_size e)) (Heap.get?_push_of_some _ e)
 have hns':h4.Ns s3.heap.objs.size fun _=>none:=by simpa using hns
 have I4:=i3 (tk:=s3.toks+([]:List (Str×Value)).length) ok I3 f3 (fun b hb=>by rw [sz3];exact Nat.lt_succ_of_lt (hfl b hb)) hns' k4
 obtain⟨hg,hi,he⟩:=hin s3.heap.objs.size s3 (upd H1 s2.heap.objs.size (.lst [])) fp pins
 have t4:tn 0 h4:=T.keep _ _ _ t1 fun b hb o e=>k4 b o (k3 b o e)
 have fx:∀b∈fp,cM (aW X N scope s3.heap.objs.size s3 (upd H1 s2.heap.objs.size (.lst [])) fp pins) [] (upd H1 s2.heap.objs.size (.lst [])) b:=fun b hb=>by
  refine⟨(f3 b hb).1,?_,?_,.inl hb,?_,?_⟩
  . exact Nat.ne_of_lt (by rw [sz3];exact Nat.lt_succ_of_lt (hfl b hb))
  . exact I4.ok.exfs b hb
  . exact(I4.ok.exf b hb).2
  . intro p hp
    have hp':p∈X.pn++pins:=by
      have q:p∈(X.pn++pins) ++ []:=hp
      simpa using q
    exact(f1 b hb).2.2.2.2.2 p hp'
 have loop:codeAny (model X.prog X.w) X.A (.compLoop (.ListComp elt [⟨tg,iter,ifs,0⟩] scope pos) 0 (.ref it) (.ref s2.heap.objs.size) (compEnvC scope (gp scope X.env) s3.heap.objs.size X.env))
    (compPost (model X.prog X.w) X.A X.xe use Q (.ref s2.heap.objs.size) s3.heap.objs.size) { s3 with heap:=h4,toks:=s3.toks+([]:List (Str×Value)).length }:=by
  refine vb (X':=aW X N scope s3.heap.objs.size s3 (upd H1 s2.heap.objs.size (.lst [])) fp pins) (all:=all) (g':=g') rfl hc T fx J1 hDn (aF.le hz) hg hi he ?_ _ _ _ ι1 (bu fr σd) g1 I4 t4 (fun b hb=>(f3 b hb).1) ((Ext.refl (H:=H1) (ι:=ι1)).ki hDn) (G1.hide hDn) ?_ aX h2
  . intro s' σ' H' ιo vs I' fr' E' G' hD' r'
    have I5:Inv X pins σ H' s':=I3.uD (ch:=fp) I'.os I'.base I'.hok I'.bare fun b hb=>⟨(f3 b hb).2.2.2.1,(f3 b hb).2.1,(f3 b hb).2.2.2.2.1,(f3 b hb).2.2.2.2.2⟩
    obtain⟨m,hm,_⟩:=I'.loc
    refine fin s' H' ιo vs _ _ I5 ?_ ⟨m,hm⟩ (e1.trans E') G' hD' r' ?_ ?_
    . have z:=I3.gv (H':=H') (b:=s3.heap.objs.size) (Nat.le_refl _) I'.free
      exact z
    . rw [E'.hid];exact G1.fX hDn
    . cases q:H s2.heap.objs.size with
      | none=>rfl
      | some o=>exact absurd hDn (e1.there _ (by rw [q];simp))
  . have S1:a_ X.kw H1 ι1 (bu fr σd) (bu fr σ):=(S0.ext e1).sub fr
    exact⟨S1.1,fun j d q=>let⟨v,a,b⟩:=S1.2 j d q;⟨v,a,Rel.hide hDn d b⟩⟩
 exact codeAny_compStart_list loop (T.self _ 0 _ _ _ t4 loop)
theorem ia {H ι H' ιo K g' all vs Dl d gg Q}(e:Ext H ι H' ιo)(G':ay K H' (Ix.hide ιo Dl) g')(hD:H' Dl=some (.lst vs))(r:ag K H' (Ix.hide ιo Dl) all vs)(hn:Dl ∉ ιo.hd)(hm:bB all g'=some (d,gg))(p:eh K H ι d gg Q):Q (.ref Dl) H':=by
 cases hm
 refine p H' ιo _ e G'.show ?_
 simp only [Rel]
 exact⟨Dl,vs,rfl,.inl ⟨.inl hD,(G'.hid Dl List.mem_cons_self).1,hn⟩,ag.show _ r⟩
end
section
variable {X:Cx}{tg iter elt:Expr}{ifs:List Expr}{scope:Scope}{pos cpos:Pos}{N:List Str}{fr:List (Option Nat)}{fi:FI}{t:FG}{c:FT}{e:FE}
theorem AZ (hxe:X.xe=fun _ _=>False)(hc:X.calm=true)(ok:dq X N fr scope)(hit:DI X tg iter fi)(hin:∀C s3 H fp pins,DG (aW X N scope C s3 H fp pins) tg t/\dY (aW X N scope C s3 H fp pins) ifs c/\DE (aW X N scope C s3 H fp pins) elt e)
   (hs:∀x,foldedSetIterable iter X.env x=pure x:=by intro _;rfl):DE X (.ListComp elt [⟨tg,iter,ifs,0⟩] scope pos) (bU bB fi fr t c e):=.of (by
 intro pins s σ H Q I h
 obtain⟨ι,σd,g,d,gg,G0,S0,h,p⟩:=h
 obtain⟨⟨ds,g1⟩,h1,h⟩:=bind_some h
 dsimp only at h
 split at h
 . rename_i hz
   obtain⟨⟨all,g'⟩,h2,h⟩:=bind_some h
   rw [eval_ListComp]
   refine nQ (use:=none) hxe hc ok hit hin hs I G0 S0 h1 hz h2 fun s' H' ιo vs Dl C I' fC ⟨m,hm⟩ e' G' hD r hn hf0=>?_
   refine⟨m,hm,fun h'' sb=>⟨.ref Dl,H',?_,rfl,ia e' G' hD r hn h p⟩⟩
   obtain⟨f0,f1,f2,f3,f4,f5⟩:=fC
   exact I'.turned (t':=s'.toks) (fun b o hb e=>sb.extBut b o hb e) f0 f1 f3 f4 f5
 . cases h)
theorem qM {mk:List D->G->Option (D×G)}{i:Nat}{x:Str}{px spos:Pos}(hmk:∀{H ι H' ιo g' all vs Dl d gg Q},Ext H ι H' ιo->H Dl=none->ay X.kw H' (Ix.hide ιo Dl) g'->H' Dl=some (.lst vs)->ag X.kw H' (Ix.hide ιo Dl) all vs->Dl ∉ ιo.hd->mk all g'=some (d,gg)->eh X.kw H ι d gg Q->Q (.ref Dl) H')
   (hxe:X.xe=fun _ _=>False) (hc:X.calm=true) (ok:dq X N fr scope) (hit:DI X tg iter fi) (hin:∀C s3 H fp pins,DG (aW X N scope C s3 H fp pins) tg t/\dY (aW X N scope C s3 H fp pins) ifs c/\DE (aW X N scope C s3 H fp pins) elt e)
   (hN:X.N.Nodup) (hi:X.N[i]? = some x) (hx:Loc X.env.scope x)
   (hsw:swapsWith (.ListComp elt [⟨tg,iter,ifs,0⟩] scope pos) (some (.Name x px)) spos.line X.env=pure true)
   (hs:∀x,foldedSetIterable iter X.env x=pure x) (hf:X.fn x=true\/X.env.scope.names.lookup x=some .local):DS X (.Assign [.Name x px] (.ListComp elt [⟨tg,iter,ifs,0⟩] scope pos) spos) (aA (bU mk fi fr t c e) (gN i)):=.of (by
 intro pins s σ H Dn I h
 obtain⟨ι,σd,g,r,σd',gg,G0,S0,h0,p⟩:=h
 obtain⟨⟨d,gg'⟩,h1',hr⟩:=bind_some h0
 have hr':some (F.nx,σd.set i (some d),gg')=some (r,σd',gg):=hr
 clear h0
 obtain⟨⟨ds,g1⟩,h1,h3⟩:=bind_some (x:=fi σd g) h1'
 dsimp only at h3
 split at h3
 . rename_i hz
   obtain⟨⟨all,g'⟩,h2,h4⟩:=bind_some h3
   rw [exec_Assign_Name_used _ _ _ _ hsw]
   refine wpAny_bind (wpAny_standAt (wpAny_bind ?_))
   show wpAny _ X.A (do let _ <- comprehension (.ListComp elt [⟨tg,iter,ifs,0⟩] scope pos) scope X.env _ (newList []) false (eval iter X.env) (some (assign (.Name x px) X.env))) _ _ s
   refine wpAny_bind (wpAny_mono (nQ (use:=some (assign (.Name x px) X.env)) (Q:=fun _ s'=>SP X pins Dn .next s') hxe hc ok hit hin hs I G0 S0 h1 hz h2 fun s' H' ιo vs Dl C I' fC ⟨m,hm⟩ e' G' hD r hn hf0=>?_) (fun _ s' hq=>wpAny_pure (wpAny_pure hq)) fun _ _ e=>e)
   show wpAny _ X.A (assign (.Name x px) X.env (.ref Dl)) _ _ _
   refine wpAny_assign_Name (jH I' hN hi hx (v:=.ref Dl) rfl (fun s'' I'' ⟨a,sb,ha⟩=>?_) hf)
   obtain⟨f0,f1,f2,f3,f4,f5⟩:=fC
   have hac:C≠a:=by
    rcases ha with rfl | ha
    . exact f1
    . exact fun z=>f4 _ _ ha z.symm
   obtain⟨oc,es,ep,ho,rest⟩:=hm
   refine⟨m,⟨oc,es,ep,(sb.2 C hac).trans ho,rest⟩,fun h'' sb2=>?_⟩
   refine⟨σ.set i (some (.ref Dl)),H',I''.turned (t':=s''.toks) (fun b o hb e=>sb2.extBut b o hb e) f0 f1 f3 f4 f5,?_⟩
   cases hr'
   exact hmk (Q:=fun v H'=>Dn.nx (σ.set i (some v)) H') e' hf0 G' hD r hn h4 fun H2 ι2 v e2 G2 r2=>p H2 ι2 e2 G2 _ ((S0.ext e2).set r2 i)
 . cases h3)
theorem tT {i:Nat}{x:Str}{px spos:Pos}(hxe:X.xe=fun _ _=>False)(hc:X.calm=true)(ok:dq X N fr scope)(hit:DI X tg iter fi)(hin:∀C s3 H fp pins,DG (aW X N scope C s3 H fp pins) tg t/\dY (aW X N scope C s3 H fp pins) ifs c/\DE (aW X N scope C s3 H fp pins) elt e)
  (hN:X.N.Nodup) (hi:X.N[i]? = some x) (hx:Loc X.env.scope x) (hsw:swapsWith (.ListComp elt [⟨tg,iter,ifs,0⟩] scope pos) (some (.Name x px)) spos.line X.env=pure true:=by rfl)
  (hs:∀x,foldedSetIterable iter X.env x=pure x:=by intro _;rfl) (hf:X.fn x=true\/X.env.scope.names.lookup x=some .local:=by first | exact .inl rfl | exact .inr rfl | assumption) :
  DS X (.Assign [.Name x px] (.ListComp elt [⟨tg,iter,ifs,0⟩] scope pos) spos) (aA (bU bB fi fr t c e) (gN i)) :=
 (qM (fun e' _ G' hD r hn h4 p=>ia e' G' hD r hn h4 p) hxe hc ok hit hin hN hi hx hsw hs hf)
end
def aY (c:Int->Int->Bool)(f:Int->Int->Int)(d1 d2:D)(g:G):Option (D×G):=match d1,d2 with
 | .int i,.int j=>if c i j=true then some (.int (f i j),g) else none
 | _,_=>none
def mE (f:Int->Int->Bool)(d1 d2:D)(g:G):Option (D×G):=match d1,d2 with
 | .int i,.int j=>some (.bl (f i j),g)
 | _,_=>none
def bQ (_ _:Int):Bool:=true
def cG (i j:Int):Bool:=Nat.ble i.natAbs 18446744073709551615||Nat.ble j.natAbs 18446744073709551615
def ed (_ j:Int):Bool:=Nat.ble 1 j.toNat&&Nat.ble j.toNat 1073741823
def cy (_ j:Int):Bool:=Nat.ble 1 j.toNat
def cu (i j:Int):Bool:=(match j with | .ofNat n=>Nat.ble n 1000000 | .negSucc _=>false)&&Nat.ble i.natAbs 18446744073709551615
section
variable {X:Cx}
theorem fw {f:Value->Value->Sem Value}{C:Int->Int->Prop}{c:Int->Int->Bool}{fi:Int->Int->Int}(h:bw X f (rI C fun i j=>.int (fi i j)))(hc:∀i j,c i j=true->C i j):bw X f (cA X.kw (aY c fi)):=by
 intro pins s σ H x y v u Q I rx ry q
 obtain⟨ι,g,d1,d2,d,g',G0,r1,r2,q,p⟩:=q
 cases d1 with
 | int i =>
  cases d2 with
  | int j =>
   simp only [Rel] at r1 r2;subst r1;subst r2
   simp only [aY] at q
   split at q
   . rename_i z
     cases q
     exact h pins s σ H _ _ v u Q I rx ry ⟨i,j,rfl,rfl,hc i j z,p H ι _ Ext.refl G0 (by simp [Rel])⟩
   . cases q
  | _=>cases q
 | _=>cases q
theorem j6 {g:Int->Int->V}{x y:V}{H:Hp}{Q:VK}(h:rI (fun _ _=>True) g x y H Q):jv g x y H Q:=let⟨i,j,a,b,_,q⟩:=h;⟨i,j,a,b,q⟩
theorem bw.imp {f:Value->Value->Sem Value}{r r':R2}(h:bw X f r)(i:∀x y H Q,r' x y H Q->r x y H Q):bw X f r':=fun pins s σ H x y v u Q I rx ry q=>h pins s σ H x y v u Q I rx ry (i _ _ _ _ q)
theorem BU:bw X (binaryOp .Sub) (cA X.kw (aY bQ (· - ·))):=fw (bw.imp Cm fun _ _ _ _=>j6) fun _ _ _=>trivial
theorem A8:bw X (binaryOp .Add) (cA X.kw (aY bQ (· + ·))):=fw (bw.imp EN fun _ _ _ _=>j6) fun _ _ _=>trivial
theorem z0:bw X (binaryOp .Mult) (cA X.kw (aY cG (· * ·))):=fw BK fun i j h=>by
 unfold cG at h
 simp only [Bool.or_eq_true] at h
 rcases h with h | h
 . have:=Nat.le_of_ble_eq_true h
   exact .inl ⟨by omega,by omega⟩
 . have:=Nat.le_of_ble_eq_true h
   exact .inr ⟨by omega,by omega⟩
theorem Av:bw X (binaryOp .FloorDiv) (cA X.kw (aY ed (· / ·))):=fw A4 fun i j h=>by
 unfold ed at h
 simp only [Bool.and_eq_true] at h
 have h1:=Nat.le_of_ble_eq_true h.1
 have h2:=Nat.le_of_ble_eq_true h.2
 exact⟨by omega,by omega⟩
theorem Es:bw X (binaryOp .Mod) (cA X.kw (aY cy (· % ·))):=fw Cr fun i j h=>by
 have h1:=Nat.le_of_ble_eq_true (show Nat.ble 1 j.toNat=true from h)
 show 0<j
 omega
theorem C9:bw X (binaryOp .Pow) (cA X.kw (aY cu (fun i j=>i ^ j.toNat))):=fw EW fun i j h=>by
 unfold cu at h
 simp only [Bool.and_eq_true] at h
 have h2:=Nat.le_of_ble_eq_true h.2
 cases j with
 | ofNat n =>
  have h1:=Nat.le_of_ble_eq_true (show Nat.ble n 1000000=true from h.1)
  exact⟨Int.natCast_nonneg n,(by show((n:Nat):Int)<=1000000;omega),(by omega)⟩
 | negSucc n=>exact absurd h.1 (by simp)
theorem oF {f:Value->Value->Sem Value}{fi:Int->Int->Bool}(h:bw X f (jv fun i j=>.bl (fi i j))):bw X f (cA X.kw (mE fi)):=by
 intro pins s σ H x y v u Q I rx ry q
 obtain⟨ι,g,d1,d2,d,g',G0,r1,r2,q,p⟩:=q
 cases d1 with
 | int i =>
  cases d2 with
  | int j =>
   simp only [Rel] at r1 r2;subst r1;subst r2
   cases q
   exact h pins s σ H _ _ v u Q I rx ry ⟨i,j,rfl,rfl,p H ι _ Ext.refl G0 (by simp [Rel])⟩
  | _=>cases q
 | _=>cases q
theorem FK:bw X (compareOp .Lt) (cA X.kw (mE fun i j=>decide (i<j))):=oF Gn
theorem FW:bw X (compareOp .LtE) (cA X.kw (mE fun i j=>decide (i<=j))):=oF Gs
theorem FQ:bw X (compareOp .Gt) (cA X.kw (mE fun i j=>decide (j<i))):=oF FF
theorem F7:bw X (compareOp .GtE) (cA X.kw (mE fun i j=>decide (j<=i))):=oF Gb
def qH (d:D)(g:G):Option (D×G):=match d with | .int i=>some (.int (-i),g) | _=>none
theorem B7:vB X (unaryOp .USub) (Ee X.kw qH):=by
 intro pins s σ H x v Q I rx q
 obtain⟨ι,g,d1,d,g',G0,r1,q,p⟩:=q
 cases d1 with
 | int i =>
  simp only [Rel] at r1;subst r1
  cases q
  exact DV pins s σ H _ v Q I rx ⟨i,rfl,p H ι _ Ext.refl G0 (by simp [Rel])⟩
 | _=>cases q
mutual
def flat:D->Bool
 | .ref _=>false
 | .edc=>false
 | .aI _=>false
 | .fn _=>false
 | .tup xs=>aS xs
 | .lst xs=>aS xs
 | _=>true
def aS:List D->Bool
 | []=>true
 | d::ds=>flat d&&aS ds
end
mutual
def aB:D->D->Bool
 | .non,.non=>true
 | .bl a,.bl b=>a == b
 | .bl a,.int b=>(if a then 1 else 0) == b
 | .int a,.bl b=>a == (if b then 1 else 0)
 | .int a,.int b=>a == b
 | .str a,.str b=>a == b
 | .tup xs,.tup ys=>bY xs ys
 | .lst xs,.lst ys=>bY xs ys
 | _,_=>false
def bY:List D->List D->Bool
 | [],[]=>true
 | x::xs,y::ys=>aB x y&&bY xs ys
 | _,_=>false
end
mutual
def dep:D->Nat
 | .tup xs=>bR xs+1
 | .lst xs=>bR xs+1
 | _=>0
def bR:List D->Nat
 | []=>0
 | d::ds=>max (dep d) (bR ds)
end
mutual
theorem ic:∀d:D,flat d=true->aB d d=true
 | .non,_=>by simp [aB]
 | .bl _,_=>by simp [aB]
 | .int _,_=>by simp [aB]
 | .str _,_=>by simp [aB]
 | .tup xs,h=>by simp only [aB];exact jV xs h
 | .lst xs,h=>by simp only [aB];exact jV xs h
theorem jV:∀ds:List D,aS ds=true->bY ds ds=true
 | [],_=>by simp [bY]
 | d::ds,h=>by
  simp only [aS,Bool.and_eq_true] at h
  simp only [bY,Bool.and_eq_true]
  exact⟨ic d h.1,jV ds h.2⟩
end
theorem gZ:∀xs ys:List D,bY xs ys=((List.range (min xs.length ys.length)).all (fun j=>aB (xs[j]?.getD .non) (ys[j]?.getD .non))&&xs.length == ys.length)
 | [],[]=>by simp [bY]
 | [],y::ys=>by simp [bY]
 | x::xs,[]=>by simp [bY]
 | x::xs,y::ys=>by
  simp only [bY,gZ xs ys,List.length_cons,Nat.succ_min_succ,List.range_succ_eq_map,List.all_cons,List.getElem?_cons_zero,Option.getD_some,List.all_map,Function.comp_def,List.getElem?_cons_succ]
  rw [Bool.and_assoc]
  congr 2
  simp
theorem kh {pins:List (Addr×Obj)}{σ:L2.St}{H:Hp}{s:Shared}{a:Addr}{xs ys:List V}(I:Inv X pins σ H s)(h:dh X.kw H a xs)(h':cD X.kw H a ys):False:=by
 obtain⟨its,_,ht,_⟩:=I.tuple h
 obtain⟨its',_,hl,_⟩:=I.list h'
 exact SeqAt.ne_of_list_tuple hl.isList ht rfl
mutual
theorem Rel.inj {pins:List (Addr×Obj)}{σ:L2.St}{H:Hp}{s:Shared}{ι:Ix}(I:Inv X pins σ H s):∀(d1 d2:D) {v:V},flat d1=true->flat d2=true->Rel X.kw H ι d1 v->Rel X.kw H ι d2 v->d1=d2
 | .non,d2,v,_,f2,r1,r2=>by
  simp only [Rel] at r1;subst r1
  cases d2<;>simp_all [Rel,flat]
 | .bl _,d2,v,_,f2,r1,r2=>by
  simp only [Rel] at r1;subst r1
  cases d2<;>simp_all [Rel,flat]
 | .int _,d2,v,_,f2,r1,r2=>by
  simp only [Rel] at r1;subst r1
  cases d2<;>simp_all [Rel,flat]
 | .str _,d2,v,_,f2,r1,r2=>by
  simp only [Rel] at r1;subst r1
  cases d2<;>simp_all [Rel,flat]
 | .tup xs,d2,v,f1,f2,r1,r2=>by
  simp only [Rel] at r1
  obtain⟨a,vs,rfl,hq,hr⟩:=r1
  cases d2 with
  | tup ys =>
   simp only [Rel] at r2
   obtain⟨a',ws,e,hq',hr'⟩:=r2
   cases e
   have:=I.jS hq.sq hq'.sq
   subst this
   rw [ag.inj I xs ys f1 f2 hr hr']
  | lst ys =>
   simp only [Rel] at r2
   obtain⟨a',ws,e,hq',hr'⟩:=r2
   cases e
   exact(kh I hq.sq hq'.sq).elim
  | edc=>cases f2
  | ref n=>cases f2
  | aI n=>cases f2
  | fn x=>cases f2
  | _=>simp [Rel] at r2
 | .lst xs,d2,v,f1,f2,r1,r2=>by
  simp only [Rel] at r1
  obtain⟨a,vs,rfl,hq,hr⟩:=r1
  cases d2 with
  | lst ys =>
   simp only [Rel] at r2
   obtain⟨a',ws,e,hq',hr'⟩:=r2
   cases e
   have:=I.lq hq.sq hq'.sq
   subst this
   rw [ag.inj I xs ys f1 f2 hr hr']
  | tup ys =>
   simp only [Rel] at r2
   obtain⟨a',ws,e,hq',hr'⟩:=r2
   cases e
   exact(kh I hq'.sq hq.sq).elim
  | edc=>cases f2
  | ref n=>cases f2
  | aI n=>cases f2
  | fn x=>cases f2
  | _=>simp [Rel] at r2
 | .edc,d2,v,f1,_,_,_=>by cases f1
 | .ref _,d2,v,f1,_,_,_=>by cases f1
 | .aI _,d2,v,f1,_,_,_=>by cases f1
 | .fn _,d2,v,f1,_,_,_=>by cases f1
theorem ag.inj {pins:List (Addr×Obj)}{σ:L2.St}{H:Hp}{s:Shared}{ι:Ix}(I:Inv X pins σ H s):∀(ds es:List D) {vs:List V},aS ds=true->aS es=true->ag X.kw H ι ds vs->ag X.kw H ι es vs->ds=es
 | [],es,vs,_,_,r1,r2=>by
  simp only [ag] at r1;subst r1
  cases es with
  | nil=>rfl
  | cons e es=>simp [ag] at r2
 | d::ds,es,vs,f1,f2,r1,r2=>by
  simp only [ag] at r1
  obtain⟨v,vr,rfl,hv,hr⟩:=r1
  cases es with
  | nil=>simp [ag] at r2
  | cons e es =>
   simp only [ag] at r2
   obtain⟨v',vr',e1,hv',hr'⟩:=r2
   cases e1
   simp only [aS,Bool.and_eq_true] at f1 f2
   rw [Rel.inj I d e f1.1 f2.1 hv hv',ag.inj I ds es f1.2 f2.2 hr hr']
end
theorem Rel.sJ {K H ι d v b t}(r:Rel K H ι d v)(rv:RelV v (.float b t)):False:=by
 cases d with
 | non=>simp only [Rel] at r;subst r;cases rv
 | bl _=>simp only [Rel] at r;subst r;cases rv
 | int _=>simp only [Rel] at r;subst r;obtain⟨t,e⟩:=rv;cases e
 | str _=>simp only [Rel] at r;subst r;obtain⟨t,e⟩:=rv;cases e
 | tup _=>simp only [Rel] at r;obtain⟨a,vs,rfl,_⟩:=r;cases rv
 | lst _=>simp only [Rel] at r;obtain⟨a,vs,rfl,_⟩:=r;cases rv
 | edc=>simp only [Rel] at r;obtain⟨a,rfl,_⟩:=r;cases rv
 | ref _=>simp only [Rel] at r;obtain⟨a,rfl,_⟩:=r;cases rv
 | aI _=>simp only [Rel] at r;obtain⟨a,rfl,_⟩:=r;cases rv
 | fn _=>simp only [Rel] at r;obtain⟨a,rfl,_⟩:=r;cases rv
theorem in1_units (A:Around):A.in1.units=A.units+1:=rfl
section
open SeqAt
variable {pins:List (Addr×Obj)}{σ:L2.St}{H:Hp}{s:Shared}{ι:Ix}
theorem lP {A:Around}{s:Shared}{u v:Value}{k:Bool}(h:RcAt A s u v k)(hs:u=v->k=true)(hnf:∀b t,u ≠ .float b t):EqAt A s u v k:=fun prog w E Q hq=>by
 unfold eqBool
 refine wpAny_holding ?_
 refine wpAny_ite_split (fun hab=>?_) (fun _=>?_)
 . rw [hs (eq_of_beq hab)] at hq
   exact wpAny_bind (wpAny_rule (wpAny_pure hq))
 . cases u with
   | float b t=>exact absurd rfl (hnf b t)
   | _=>exact wpAny_bind (h prog w E _ (wpAny_truthy_bool hq))
set_option maxHeartbeats 4000000 in
mutual
theorem pv (I:Inv X pins σ H s):∀(d1 d2:D) {A:Around} {x y:V} {u v:Value},flat d1=true->flat d2=true->Rel X.kw H ι d1 x->Rel X.kw H ι d2 y->RelV x u->RelV y v->A.units+dep d1<cLine->RcAt A s u v (aB d1 d2)
 | .non,d2,A,x,y,u,v,_,f2,r1,r2,ru,rv,hu=>by
  simp only [Rel] at r1;subst r1;cases ru
  cases d2 with
  | non=>simp only [Rel] at r2;subst r2;cases rv;simp only [aB];exact .none_none
  | bl b=>simp only [Rel] at r2;subst r2;cases rv;simp only [aB];exact .none_bool b
  | int b=>simp only [Rel] at r2;subst r2;obtain⟨t,rfl⟩:=rv;simp only [aB];exact .none_int b t
  | str b=>simp only [Rel] at r2;subst r2;obtain⟨t,rfl⟩:=rv;simp only [aB];exact .none_str b t
  | tup ys=>simp only [Rel] at r2;obtain⟨a',ws,rfl,hq,hr⟩:=r2;cases rv;obtain⟨its,_,ht,_⟩:=I.tuple hq.sq;simp only [aB];exact .none_tuple ht (by omega)
  | lst ys=>simp only [Rel] at r2;obtain⟨a',ws,rfl,hq,hr⟩:=r2;cases rv;obtain⟨its,_,ht,_⟩:=I.list hq.sq;simp only [aB];exact .none_list ht.isList (by omega)
  | _=>cases f2
 | .bl a,d2,A,x,y,u,v,_,f2,r1,r2,ru,rv,hu=>by
  simp only [Rel] at r1;subst r1;cases ru
  cases d2 with
  | non=>simp only [Rel] at r2;subst r2;cases rv;simp only [aB];exact .bool_none a
  | bl b=>simp only [Rel] at r2;subst r2;cases rv;simp only [aB];exact .bool_bool a b
  | int b=>simp only [Rel] at r2;subst r2;obtain⟨t,rfl⟩:=rv;simp only [aB];exact .bool_int a b t
  | str b=>simp only [Rel] at r2;subst r2;obtain⟨t,rfl⟩:=rv;simp only [aB];exact .bool_str a b t
  | tup ys=>simp only [Rel] at r2;obtain⟨a',ws,rfl,hq,hr⟩:=r2;cases rv;obtain⟨its,_,ht,_⟩:=I.tuple hq.sq;simp only [aB];exact .bool_tuple a ht (by omega)
  | lst ys=>simp only [Rel] at r2;obtain⟨a',ws,rfl,hq,hr⟩:=r2;cases rv;obtain⟨its,_,ht,_⟩:=I.list hq.sq;simp only [aB];exact .bool_list a ht.isList (by omega)
  | _=>cases f2
 | .int a,d2,A,x,y,u,v,_,f2,r1,r2,ru,rv,hu=>by
  simp only [Rel] at r1;subst r1;obtain⟨t0,rfl⟩:=ru
  cases d2 with
  | non=>simp only [Rel] at r2;subst r2;cases rv;simp only [aB];exact .int_none a t0
  | bl b=>simp only [Rel] at r2;subst r2;cases rv;simp only [aB];exact .int_bool a t0 b
  | int b=>simp only [Rel] at r2;subst r2;obtain⟨t,rfl⟩:=rv;simp only [aB];exact .int_int a t0 b t
  | str b=>simp only [Rel] at r2;subst r2;obtain⟨t,rfl⟩:=rv;simp only [aB];exact .int_str a t0 b t
  | tup ys=>simp only [Rel] at r2;obtain⟨a',ws,rfl,hq,hr⟩:=r2;cases rv;obtain⟨its,_,ht,_⟩:=I.tuple hq.sq;simp only [aB];exact .int_tuple a t0 ht (by omega)
  | lst ys=>simp only [Rel] at r2;obtain⟨a',ws,rfl,hq,hr⟩:=r2;cases rv;obtain⟨its,_,ht,_⟩:=I.list hq.sq;simp only [aB];exact .int_list a t0 ht.isList (by omega)
  | _=>cases f2
 | .str a,d2,A,x,y,u,v,_,f2,r1,r2,ru,rv,hu=>by
  simp only [Rel] at r1;subst r1;obtain⟨t0,rfl⟩:=ru
  cases d2 with
  | non=>simp only [Rel] at r2;subst r2;cases rv;simp only [aB];exact .str_none a t0
  | bl b=>simp only [Rel] at r2;subst r2;cases rv;simp only [aB];exact .str_bool a t0 b
  | int b=>simp only [Rel] at r2;subst r2;obtain⟨t,rfl⟩:=rv;simp only [aB];exact .str_int a t0 b t
  | str b=>simp only [Rel] at r2;subst r2;obtain⟨t,rfl⟩:=rv;simp only [aB];exact .str_str a t0 b t
  | tup ys=>simp only [Rel] at r2;obtain⟨a',ws,rfl,hq,hr⟩:=r2;cases rv;obtain⟨its,_,ht,_⟩:=I.tuple hq.sq;simp only [aB];exact .str_tuple a t0 ht (by omega)
  | lst ys=>simp only [Rel] at r2;obtain⟨a',ws,rfl,hq,hr⟩:=r2;cases rv;obtain⟨its,_,ht,_⟩:=I.list hq.sq;simp only [aB];exact .str_list a t0 ht.isList (by omega)
  | _=>cases f2
 | .tup xs,d2,A,x,y,u,v,f1,f2,r1,r2,ru,rv,hu=>by
  simp only [Rel] at r1;obtain⟨a,vs,rfl,hq,hr⟩:=r1;cases ru
  obtain⟨its,rits,ht,_⟩:=I.tuple hq.sq
  simp only [dep] at hu
  cases d2 with
  | non=>simp only [Rel] at r2;subst r2;cases rv;simp only [aB];exact .tuple_none ht (by omega)
  | bl b=>simp only [Rel] at r2;subst r2;cases rv;simp only [aB];exact .tuple_bool b ht (by omega)
  | int b=>simp only [Rel] at r2;subst r2;obtain⟨t,rfl⟩:=rv;simp only [aB];exact .tuple_int b t ht (by omega)
  | str b=>simp only [Rel] at r2;subst r2;obtain⟨t,rfl⟩:=rv;simp only [aB];exact .tuple_str b t ht (by omega)
  | tup ys =>
   simp only [Rel] at r2;obtain⟨a',ws,rfl,hq',hr'⟩:=r2;cases rv
   obtain⟨its',rits',ht',_⟩:=I.tuple hq'.sq
   simp only [aB,gZ]
   have l1:xs.length=its.toArray.size:=by rw [List.size_toArray,<- rits.length];exact hr.length
   have l2:ys.length=its'.toArray.size:=by rw [List.size_toArray,<- rits'.length];exact hr'.length
   rw [l1,l2]
   refine .tuples ht ht' (by omega) fun j h1 h2=>?_
   have:=iJ I xs ys (A:=A.in1) f1 f2 hr hr' rits rits' (by rw [in1_units];omega) j (by simpa using h1) (by simpa using h2)
   simpa using this
  | lst ys =>
   simp only [Rel] at r2;obtain⟨a',ws,rfl,hq',hr'⟩:=r2;cases rv
   obtain⟨its',rits',ht',_⟩:=I.list hq'.sq
   simp only [aB];exact .tuple_list ht ht'.isList (by omega)
  | _=>cases f2
 | .lst xs,d2,A,x,y,u,v,f1,f2,r1,r2,ru,rv,hu=>by
  simp only [Rel] at r1;obtain⟨a,vs,rfl,hq,hr⟩:=r1;cases ru
  obtain⟨its,rits,ht,_⟩:=I.list hq.sq
  simp only [dep] at hu
  cases d2 with
  | non=>simp only [Rel] at r2;subst r2;cases rv;simp only [aB];exact .list_none ht.isList (by omega)
  | bl b=>simp only [Rel] at r2;subst r2;cases rv;simp only [aB];exact .list_bool b ht.isList (by omega)
  | int b=>simp only [Rel] at r2;subst r2;obtain⟨t,rfl⟩:=rv;simp only [aB];exact .list_int b t ht.isList (by omega)
  | str b=>simp only [Rel] at r2;subst r2;obtain⟨t,rfl⟩:=rv;simp only [aB];exact .list_str b t ht.isList (by omega)
  | lst ys =>
   simp only [Rel] at r2;obtain⟨a',ws,rfl,hq',hr'⟩:=r2;cases rv
   obtain⟨its',rits',ht',_⟩:=I.list hq'.sq
   simp only [aB,gZ]
   have l1:xs.length=its.toArray.size:=by rw [List.size_toArray,<- rits.length];exact hr.length
   have l2:ys.length=its'.toArray.size:=by rw [List.size_toArray,<- rits'.length];exact hr'.length
   rw [l1,l2]
   by_cases hs:its.toArray.size=its'.toArray.size
   . have e0:(its.toArray.size == its'.toArray.size)=true:=by simpa using hs
     rw [e0,Bool.and_true,<- hs,Nat.min_self]
     refine .lists ht.isList ht'.isList hs (by omega) fun j h1 h2=>?_
     have:=iJ I xs ys (A:=A.in1) f1 f2 hr hr' rits rits' (by rw [in1_units];omega) j (by simpa using h1) (by simpa using h2)
     simpa using this
   . have e0:(its.toArray.size == its'.toArray.size)=false:=by simpa using hs
     rw [e0,Bool.and_false]
     exact .lists_lengths ht.isList ht'.isList (by simpa using hs) (by omega)
  | tup ys =>
   simp only [Rel] at r2;obtain⟨a',ws,rfl,hq',hr'⟩:=r2;cases rv
   obtain⟨its',rits',ht',_⟩:=I.tuple hq'.sq
   simp only [aB];exact .list_tuple ht.isList ht' (by omega)
  | _=>cases f2
 | .edc,d2,A,x,y,u,v,f1,_,_,_,_,_,_=>by cases f1
 | .ref _,d2,A,x,y,u,v,f1,_,_,_,_,_,_=>by cases f1
 | .aI _,d2,A,x,y,u,v,f1,_,_,_,_,_,_=>by cases f1
 | .fn _,d2,A,x,y,u,v,f1,_,_,_,_,_,_=>by cases f1
theorem iJ (I:Inv X pins σ H s):∀(xs ys:List D) {A:Around} {vs ws:List V} {us zs:List Value},aS xs=true->aS ys=true->ag X.kw H ι xs vs->ag X.kw H ι ys ws->Vals vs us->Vals ws zs->A.units+bR xs<cLine ->
  ∀(j:Nat) (h1:j<us.length) (h2:j<zs.length),EqAt A s us[j] zs[j] (aB (xs[j]?.getD .non) (ys[j]?.getD .non))
 | [],ys,A,vs,ws,us,zs,_,_,r1,_,ru,_,_,j,h1,_=>by
  simp only [ag] at r1;subst r1;cases ru;simp at h1
 | d::ds,ys,A,vs,ws,us,zs,f1,f2,r1,r2,ru,rz,hu,j,h1,h2=>by
  simp only [ag] at r1
  obtain⟨v,vr,rfl,hv,hr⟩:=r1
  simp only [bR] at hu
  simp only [aS,Bool.and_eq_true] at f1
  cases ru with
  | cons ru0 rur =>
   cases ys with
   | nil=>simp only [ag] at r2;subst r2;cases rz;simp at h2
   | cons e es =>
    simp only [ag] at r2
    obtain⟨w,wr,rfl,hw,hwr⟩:=r2
    simp only [aS,Bool.and_eq_true] at f2
    cases rz with
    | cons rz0 rzr =>
     cases j with
     | zero =>
      have rc:=pv I d e (A:=A) f1.1 f2.1 hv hw ru0 rz0 (by omega)
      simp only [List.getElem_cons_zero,List.getElem?_cons_zero,Option.getD_some]
      refine lP rc (fun euv=>?_) (fun b t ef=>Rel.sJ hv (by rw [ef] at ru0;exact ru0))
      subst euv
      have exy:=ru0.inj rz0
      subst exy
      have ede:=Rel.inj I d e f1.1 f2.1 hv hw
      subst ede
      exact ic d f1.1
     | succ j =>
      have:=iJ I ds es (A:=A) f1.2 f2.2 hr hwr rur rzr (by omega) j (by simpa using h1) (by simpa using h2)
      simpa using this
end
end
def oEq (d1 d2:D)(g:G):Option (D×G):=if(flat d1&&flat d2&&decide (dep d1<=60))=true then some (.bl (aB d1 d2),g) else none
theorem FP (hu:X.A.units+64<cLine):bw X (compareOp .Eq) (cA X.kw oEq):=by
 intro pins s σ H x y v u Q I rx ry q
 obtain⟨ι,g,d1,d2,d,g',G0,r1,r2,q,p⟩:=q
 unfold oEq at q
 split at q
 . rename_i z
   simp only [Bool.and_eq_true,decide_eq_true_eq] at z
   cases q
   exact pv I d1 d2 z.1.1 z.1.2 r1 r2 rx ry (by omega) _ _ _ _ ⟨.bl _,H,I,rfl,p H ι _ Ext.refl G0 (by simp [Rel])⟩
 . cases q
def cx:D->Bool
 | .non=>true
 | _=>false
def xp (d1 d2:D)(g:G):Option (D×G):=match d2 with | .non=>some (.bl (cx d1),g) | _=>none
def uv (d1 d2:D)(g:G):Option (D×G):=match d2 with | .non=>some (.bl (!cx d1),g) | _=>none
theorem sI {K H ι d v}(r:Rel K H ι d v):decide (v=V.non)=cx d:=by
 cases d with
 | non=>simp only [Rel] at r;subst r;rfl
 | bl _=>simp only [Rel] at r;subst r;rfl
 | int _=>simp only [Rel] at r;subst r;rfl
 | str _=>simp only [Rel] at r;subst r;rfl
 | tup _=>simp only [Rel] at r;obtain⟨a,vs,rfl,_⟩:=r;rfl
 | lst _=>simp only [Rel] at r;obtain⟨a,vs,rfl,_⟩:=r;rfl
 | edc=>simp only [Rel] at r;obtain⟨a,rfl,_⟩:=r;rfl
 | ref _=>simp only [Rel] at r;obtain⟨a,rfl,_⟩:=r;rfl
 | aI _=>simp only [Rel] at r;obtain⟨a,rfl,_⟩:=r;rfl
 | fn _=>simp only [Rel] at r;obtain⟨a,rfl,_⟩:=r;rfl
theorem Dk:bw X (compareOp .Is) (cA X.kw xp):=by
 intro pins s σ H x y v u Q I rx ry q
 obtain⟨ι,g,d1,d2,d,g',G0,r1,r2,q,p⟩:=q
 cases d2 with
 | non =>
  simp only [Rel] at r2;subst r2
  simp only [xp] at q
  cases q
  exact Cv pins s σ H _ _ v u Q I rx ry ⟨rfl,by rw [sI r1];exact p H ι _ Ext.refl G0 (by simp [Rel])⟩
 | _=>cases q
theorem Ac:bw X (compareOp .IsNot) (cA X.kw uv):=by
 intro pins s σ H x y v u Q I rx ry q
 obtain⟨ι,g,d1,d2,d,g',G0,r1,r2,q,p⟩:=q
 cases d2 with
 | non =>
  simp only [Rel] at r2;subst r2
  simp only [uv] at q
  cases q
  refine Bg pins s σ H _ _ v u Q I rx ry ⟨rfl,?_⟩
  rw [sI r1]
  exact p H ι _ Ext.refl G0 (by simp [Rel])
 | _=>cases q
def bZ (d:D)(g:G):Option (List D):=match d with
 | .tup xs=>some xs
 | .lst xs=>some xs
 | .ref n=>g[n]?
 | _=>none
theorem gm {K H ι g d v xs}(G0:ay K H ι g)(r:Rel K H ι d v)(h:bZ d g=some xs):∃a vs,v = .ref a/\(cD K H a vs\/dh K H a vs)/\ag K H ι xs vs:=by
 cases d with
 | tup ys=>cases h;simp only [Rel] at r;obtain⟨a,vs,rfl,hq,hr⟩:=r;exact⟨a,vs,rfl,.inr hq.sq,hr⟩
 | lst ys=>cases h;simp only [Rel] at r;obtain⟨a,vs,rfl,hq,hr⟩:=r;exact⟨a,vs,rfl,.inl hq.sq,hr⟩
 | ref n =>
  simp only [Rel] at r;obtain⟨a,rfl,ha⟩:=r
  obtain⟨vs,h1,h2⟩:=G0.at h ha
  exact⟨a,vs,rfl,.inl (.of h1),h2⟩
 | _=>cases h
def iL (d1 d2:D)(g:G):Option (D×G):=match d2 with
 | .int i=>(bZ d1 g).bind fun xs=>(dz xs i).map fun d=>(d,g)
 | _=>none
theorem A9 {K H ι}{xs:List D}{vs:List V}{i:Int}{d:D}(r:ag K H ι xs vs)(h:dz xs i=some d):∃v,dz vs i=some v/\Rel K H ι d v:=by
 unfold dz at h ⊢
 rw [<- r.length]
 obtain⟨j,h1,h2⟩:=bind_some h
 obtain⟨v,h3,h4⟩:=r.get h2
 exact⟨v,by rw [h1];exact h3,h4⟩
theorem zX:jL X (cA X.kw iL):=by
 intro value slice pins s σ H x y v u Q I rx ry q hs
 obtain⟨ι,g,d1,d2,d,g',G0,r1,r2,q,p⟩:=q
 cases d2 with
 | int i =>
  simp only [Rel] at r2;subst r2
  simp only [iL] at q
  obtain⟨xs,h1,q⟩:=bind_some q
  cases h2:dz xs i with
  | none=>rw [h2] at q;cases q
  | some e =>
   rw [h2] at q;cases q
   obtain⟨a,vs,rfl,hq,hr⟩:=gm G0 r1 h1
   obtain⟨w,h3,h4⟩:=A9 hr h2
   have fin:=p H ι w Ext.refl G0 h4
   rcases hq with hq | hq
   . exact vm value slice pins s σ H _ _ v u Q I rx ry (.inl ⟨a,vs,i,w,rfl,rfl,hq,h3,fin⟩) hs
   . exact vm value slice pins s σ H _ _ v u Q I rx ry (.inr (.inl ⟨a,vs,i,w,rfl,rfl,hq,h3,fin⟩)) hs
 | _=>cases q
def cU (ds:List D)(g:G):Option (D×G):=match ds with | [d]=>(bZ d g).map fun xs=>(.int xs.length,g) | _=>none
theorem Ex:b7 X (.builtin "len") (fI X.kw cU):=by
 intro pins s σ H xs us Q I r q
 obtain⟨ι,g,ds,d,g',G0,r1,q,p⟩:=q
 cases ds with
 | nil=>cases q
 | cons e dsr =>
 cases dsr with
 | cons _ _=>cases q
 | nil =>
  simp only [cU] at q
  cases hx:bZ e g with
  | none=>rw [hx] at q;cases q
  | some ys =>
   rw [hx] at q;cases q
   simp only [ag] at r1
   obtain⟨v,_,rfl,rv,rfl⟩:=r1
   obtain⟨a,vs,rfl,hq,hr⟩:=gm G0 rv hx
   exact p7 pins s σ H _ us Q I r ⟨a,vs,rfl,hq,by rw [<- hr.length];exact p H ι _ Ext.refl G0 (by simp [Rel])⟩
def mU (ds:List D)(g:G):Option (D×G):=match ds with | [.int i,.int j]=>some (.int (if j>i then j else i),g) | _=>none
def nF (ds:List D)(g:G):Option (D×G):=match ds with | [.int i,.int j]=>some (.int (if j<i then j else i),g) | _=>none
theorem Fd (hc:X.calm=true):b7 X (.builtin "max") (fI X.kw mU):=by
 intro pins s σ H xs us Q I r q
 obtain⟨ι,g,ds,d,g',G0,r1,q,p⟩:=q
 unfold mU at q
 split at q
 . cases q
   simp only [ag,Rel] at r1
   obtain⟨_,_,rfl,rfl,_,_,rfl,rfl,rfl⟩:=r1
   exact vR hc pins s σ H _ us Q I r ⟨_,_,rfl,p H ι _ Ext.refl G0 (by simp [Rel])⟩
 . cases q
theorem DF (hc:X.calm=true):b7 X (.builtin "min") (fI X.kw nF):=by
 intro pins s σ H xs us Q I r q
 obtain⟨ι,g,ds,d,g',G0,r1,q,p⟩:=q
 unfold nF at q
 split at q
 . cases q
   simp only [ag,Rel] at r1
   obtain⟨_,_,rfl,rfl,_,_,rfl,rfl,rfl⟩:=r1
   exact u4 hc pins s σ H _ us Q I r ⟨_,_,rfl,p H ι _ Ext.refl G0 (by simp [Rel])⟩
 . cases q
def gn (ds:List D)(g:G):Option (D×G):=match ds with | [.int i]=>some (.int i,g) | [.bl k]=>some (.int (if k then 1 else 0),g) | _=>none
theorem Dz:b7 X (.type "int") (fI X.kw gn):=by
 intro pins s σ H xs us Q I r q
 obtain⟨ι,g,ds,d,g',G0,r1,q,p⟩:=q
 unfold gn at q
 split at q
 . cases q
   simp only [ag,Rel] at r1
   obtain⟨_,_,rfl,rfl,rfl⟩:=r1
   exact om pins s σ H _ us Q I r (.inl ⟨_,rfl,p H ι _ Ext.refl G0 (by simp [Rel])⟩)
 . cases q
   simp only [ag,Rel] at r1
   obtain⟨_,_,rfl,rfl,rfl⟩:=r1
   exact om pins s σ H _ us Q I r (.inr ⟨_,rfl,p H ι _ Ext.refl G0 (by simp [Rel])⟩)
 . cases q
def de (ds:List D)(g:G):Option (D×G):=match ds with | [d]=>(bZ d g).bind fun xs=>if aF xs.length=true then some (.tup xs,g) else none | _=>none
def kc (ds:List D)(g:G):Option (D×G):=match ds with | [d]=>(bZ d g).bind fun xs=>if aF xs.length=true then some (.ref g.length,g ++ [xs]) else none | _=>none
theorem En:b7 X (.type "tuple") (fI X.kw de):=by
 intro pins s σ H xs us Q I r q
 obtain⟨ι,g,ds,d,g',G0,r1,q,p⟩:=q
 cases ds with
 | nil=>cases q
 | cons e dsr =>
 cases dsr with
 | cons _ _=>cases q
 | nil =>
  simp only [de] at q
  obtain⟨ys,hx,q⟩:=bind_some q
  split at q
  . rename_i z
    cases q
    simp only [ag] at r1
    obtain⟨v,_,rfl,rv,rfl⟩:=r1
    cases e with
    | tup zs =>
     cases hx
     simp only [Rel] at rv
     obtain⟨a,vs,rfl,hq,hr⟩:=rv
     exact jm pins s σ H _ us Q I r ⟨a,vs,rfl,.inr ⟨hq.sq,p H ι _ Ext.refl G0 (by simp only [Rel];exact⟨a,vs,rfl,hq,hr⟩)⟩⟩
    | _ =>
     obtain⟨a,vs,rfl,hq,hr⟩:=gm G0 rv hx
     have hql:cD X.kw H a vs:=by
      rcases hq with hq | hq
      . exact hq
      . exfalso
        first
         | (cases hx;done)
         | (simp only [Rel] at rv;obtain⟨a',vs',e1,hq',_⟩:=rv;cases e1;exact kh I hq hq'.sq)
         | (simp only [Rel] at rv;obtain⟨a',e1,ha⟩:=rv;cases e1;obtain⟨ws,h1,h2⟩:=G0.at hx ha;exact kh I hq (.of h1))
     refine jm pins s σ H _ us Q I r ⟨a,vs,rfl,.inl ⟨hql,fun l hl=>p _ _ _ (Ext.lay hl) (G0.lay hl) ?_⟩⟩
     simp only [Rel]
     exact⟨l,vs,rfl,.inl ⟨.inl aX,G0.fresh hl⟩,ag.ext (Ext.lay hl) _ hr⟩
  . cases q
theorem Ad:b7 X (.type "list") (fI X.kw kc):=by
 intro pins s σ H xs us Q I r q
 obtain⟨ι,g,ds,d,g',G0,r1,q,p⟩:=q
 cases ds with
 | nil=>cases q
 | cons e dsr =>
 cases dsr with
 | cons _ _=>cases q
 | nil =>
  simp only [kc] at q
  obtain⟨ys,hx,q⟩:=bind_some q
  split at q
  . rename_i z
    cases q
    simp only [ag] at r1
    obtain⟨v,_,rfl,rv,rfl⟩:=r1
    obtain⟨a,vs,rfl,hq,hr⟩:=gm G0 rv hx
    refine pW pins s σ H _ us Q I r ⟨a,vs,rfl,hq,fun l hl=>p _ _ _ (Ext.push hl) (G0.push hl hr) ?_⟩
    simp only [Rel]
    exact⟨l,rfl,cS.new G0.len⟩
  . cases q
end
section
variable {X:Cx}
inductive Ty | int | bool | str | tuple | list | dict
def Ty.name:Ty->String
 | .int=>"int" | .bool=>"bool" | .str=>"str" | .tuple=>"tuple" | .list=>"list" | .dict=>"dict"
def hX:Ty->D->Bool
 | .int,.int _=>true | .int,.bl _=>true | .bool,.bl _=>true | .str,.str _=>true
 | .tuple,.tup _=>true | .list,.lst _=>true | .list,.ref _=>true | .dict,.edc=>true | .dict,.aI _=>true
 | _,_=>false
def isFn:D->Bool
 | .fn _=>true
 | _=>false
def lb (T:Ty)(f:FE):FE:=fun σ g=>(f σ g).bind fun r=>if isFn r.1=true then none else some (.bl (hX T r.1),r.2)
theorem isi_call {pins:List (Addr×Obj)}{s:Shared}{σ:L2.St}{H:Hp}{ι:Ix}{g:G}{d:D}{x:V}{u:Value}{Q:Value->Shared->Prop}(T:Ty)(I:Inv X pins σ H s)(G0:ay X.kw H ι g)(r:Rel X.kw H ι d x)(hd:isFn d=false)(ru:RelV x u)(h:∀tk,Q (.bool (hX T d)) { s with toks:=tk }) :
  wpAny (model X.prog X.w) X.A (call (.builtin "isinstance") [u,.type T.name]) Q X.xe s:=by
 cases d with
 | non=>simp only [Rel] at r;subst r;cases ru;exact PySem.W.kia_one PySem.W.kitx_none I.gB True.intro (b:=hX T .non) (by cases T<;>rfl) (fun z=>nomatch z) h
 | bl b=>simp only [Rel] at r;subst r;cases ru;exact PySem.W.kia_one PySem.W.kitx_bool I.gB True.intro (b:=hX T (.bl b)) (by cases T<;>rfl) (fun z=>nomatch z) h
 | int b=>simp only [Rel] at r;subst r;obtain⟨t,rfl⟩:=ru;exact PySem.W.kia_one PySem.W.kitx_int I.gB True.intro (b:=hX T (.int b)) (by cases T<;>rfl) (fun z=>nomatch z) h
 | str b=>simp only [Rel] at r;subst r;obtain⟨t,rfl⟩:=ru;exact PySem.W.kia_one PySem.W.kitx_str I.gB True.intro (b:=hX T (.str b)) (by cases T<;>rfl) (fun z=>nomatch z) h
 | tup xs =>
  simp only [Rel] at r;obtain⟨a,vs,rfl,hq,hr⟩:=r;cases ru
  obtain⟨its,_,⟨o,h1,h2,_⟩,_⟩:=I.tuple hq.sq
  exact PySem.W.kia_one PySem.W.kitx_tuple I.gB ⟨o,h1,h2⟩ (b:=hX T (.tup xs)) (by cases T<;>rfl) (fun z=>nomatch z) h
 | lst xs =>
  simp only [Rel] at r;obtain⟨a,vs,rfl,hq,hr⟩:=r;cases ru
  obtain⟨its,_,⟨o,n,h1,h2,_⟩,_⟩:=I.list hq.sq
  exact PySem.W.kia_one PySem.W.kitx_list I.gB ⟨o,h1,h2⟩ (b:=hX T (.lst xs)) (by cases T<;>rfl) (fun z=>nomatch z) h
 | ref n =>
  simp only [Rel] at r;obtain⟨a,rfl,ha⟩:=r;cases ru
  have hi:n<g.length:=by rw [<- G0.len];exact(List.getElem?_eq_some_iff.mp ha.1).1
  obtain⟨vs,h1,h2⟩:=G0.at (List.getElem?_eq_getElem hi) ha
  obtain⟨its,_,⟨o,n,h1,h2,_⟩,_⟩:=I.list (cD.of h1)
  exact PySem.W.kia_one PySem.W.kitx_list I.gB ⟨o,h1,h2⟩ (b:=true&&hX T (.lst [])) (by cases T<;>rfl) (fun z=>nomatch z) (by cases T<;>exact h)
 | edc =>
  simp only [Rel] at r;obtain⟨a,rfl,ha,_⟩:=r;cases ru
  obtain⟨_,_,vs,_,p⟩:=(show cz X.prog X.w H s.heap a (.dK []) from I.hok a _ ha)
  obtain⟨o,es,ep,h1,h2,_⟩:=p
  exact PySem.W.kia_one PySem.W.kitx_dict I.gB ⟨o,h1,h2.1⟩ (b:=hX T .edc) (by cases T<;>rfl) (fun z=>nomatch z) h
 | aI n =>
  simp only [Rel] at r;obtain⟨a,rfl,ha⟩:=r;cases ru
  have hi:n<g.length:=by rw [<- G0.len];exact(List.getElem?_eq_some_iff.mp ha.1).1
  obtain⟨es,vs,c,h1,_⟩:=G0.jB (List.getElem?_eq_getElem hi) ha
  have h2:=((show cz X.prog X.w H s.heap a (dO a es c) from I.hok a _ h1)).1
  exact PySem.W.kia_one PySem.W.kitx_dict I.gB ⟨_,h2,rfl⟩ (b:=hX T (.aI n)) (by cases T<;>rfl) (fun z=>nomatch z) h
 | fn y=>cases hd
theorem EL {a:Expr}{fa:FE}{p p2 pos:Pos}(T:Ty)(hm:X.mg "isinstance" = none)(hmT:X.mg (Str.ofString T.name)=none)(ha:DE X a fa)(hg:Gl X "isinstance":=by rfl)(hgT:Gl X (Str.ofString T.name):=by rfl)
   (hs1:starEach [a,.Name (Str.ofString T.name) p2] X.env=(false,eval a X.env)::starEach [.Name (Str.ofString T.name) p2] X.env:=by rfl):DE X (.Call (.Name "isinstance" p) [a,.Name (Str.ofString T.name) p2] [] pos) (lb T fa):=.of (by
 have hT:bootBuiltins (Str.ofString T.name)=some (.type T.name):=by
   cases T
   . exact PyProof.Rows.boot_int
   . exact PyProof.Rows.boot_bool
   . exact PyProof.Rows.boot_str
   . exact PyProof.Rows.boot_tuple
   . exact PyProof.Rows.boot_list
   . exact PyProof.Rows.boot_dict
 have hc:b7 X (.builtin "isinstance") (fun xs H Q=>∃x ι g d,xs = [x,.ty T.name]/\ay X.kw H ι g/\Rel X.kw H ι d x/\isFn d=false/\Q (.bl (hX T d)) H):=by
   intro pins s σ H xs us Q I r q
   obtain⟨x,ι,g,d,rfl,G0,rd,nf,q⟩:=q
   obtain⟨u,w',rfl,ru,rt⟩:=vals2 r
   cases rt
   exact isi_call T I G0 rd nf ru fun tk=>⟨.bl _,H,I.tok _,rfl,q⟩
 refine PE.imp (qw hc hg hm PyProof.Rows.boot_isinstance (iP ha.un (iP (zU (v:=.ty T.name) hgT hmT hT rfl (by cases T<;>decide) (by cases T<;>decide)) lQ (by rfl)) hs1) (by decide) (by decide) hs1) fun σ H Q h=>?_
 obtain⟨ι,σd,g,d,g',G0,S0,h,p⟩:=h
 obtain⟨⟨d1,g1⟩,h1,h⟩:=bind_some h
 dsimp only at h
 split at h
 . cases h
 rename_i nf
 cases h
 exact tD.bind G0 S0 h1 fun H1 ι1 v e1 G1 S1 r1=>⟨v,ι1,g',d1,rfl,G1,r1,by simpa using nf,p H1 ι1 _ e1 G1 (by simp [Rel])⟩)
def bools:List D->Option (List Bool)
 | []=>some []
 | .bl b::ds=>(bools ds).map (b :: ·)
 | _=>none
def jO (ds:List D)(g:G):Option (D×G):=match ds with | [.lst xs]=>(bools xs).map fun bs=>(.bl (bs.all id),g) | _=>none
theorem jy {K H ι}:∀{xs:List D} {vs:List V} {us:List Value} {bs:List Bool},bools xs=some bs->ag K H ι xs vs->Vals vs us->us=bs.map Value.bool
 | [],vs,us,bs,hb,r,rv=>by simp only [ag] at r;subst r;cases rv;cases hb;rfl
 | .bl b::ds,vs,us,bs,hb,r,rv=>by
  simp only [ag,Rel] at r
  obtain⟨v,vr,rfl,rfl,hr⟩:=r
  cases rv with
  | cons r0 rr =>
   cases r0
   simp only [bools] at hb
   cases hb':bools ds with
   | none=>rw [hb'] at hb;cases hb
   | some bs' =>
    rw [hb'] at hb;cases hb
    rw [jy hb' hr rr];rfl
 | .non::ds,_,_,_,hb,_,_=>by simp [bools] at hb
 | .int _::ds,_,_,_,hb,_,_=>by simp [bools] at hb
 | .str _::ds,_,_,_,hb,_,_=>by simp [bools] at hb
 | .tup _::ds,_,_,_,hb,_,_=>by simp [bools] at hb
 | .lst _::ds,_,_,_,hb,_,_=>by simp [bools] at hb
 | .edc::ds,_,_,_,hb,_,_=>by simp [bools] at hb
 | .ref _::ds,_,_,_,hb,_,_=>by simp [bools] at hb
theorem mh {s:Shared}{h':Heap}{o:Obj}(hk:∀b x,b ∉ [s.heap.objs.size]->(s.heap.push o).get? b=some x->h'.get? b=some x):∀b x,s.heap.get? b=some x->h'.get? b=some x :=
 fun b x e=>hk b x (fun hm=>by rw [List.mem_singleton.mp hm] at e;exact Nat.lt_irrefl _ (Heap.lt_size e)) (Heap.get?_push_of_some _ e)
theorem uJ (bs:List Bool):((List.range bs.length).all fun i=>(bs[i]?).getD true)=bs.all id:=by
 rw [Bool.eq_iff_iff]
 simp only [List.all_eq_true,List.mem_range,id_eq]
 constructor
 . intro h x hx
   obtain⟨i,hi,e⟩:=List.mem_iff_getElem.mp hx
   have:=h i hi
   rw [List.getElem?_eq_getElem hi,e] at this
   simpa using this
 . intro h i hi
   rw [List.getElem?_eq_getElem hi]
   exact h _ (List.getElem_mem hi)
theorem tw (bs:List Bool):((List.range bs.length).any fun i=>(bs[i]?).getD false)=bs.any id:=by
 rw [Bool.eq_iff_iff]
 simp only [List.any_eq_true,List.mem_range,id_eq]
 constructor
 . rintro⟨i,hi,h⟩
   rw [List.getElem?_eq_getElem hi] at h
   exact⟨_,List.getElem_mem hi,by simpa using h⟩
 . rintro⟨x,hx,h⟩
   obtain⟨i,hi,e⟩:=List.mem_iff_getElem.mp hx
   exact⟨i,hi,by rw [List.getElem?_eq_getElem hi,e];simpa using h⟩
theorem CT (hc:X.calm=true):b7 X (.builtin "all") (fI X.kw jO):=by
 intro pins s σ H xs us Q I r q
 obtain⟨ι,g,ds,d,g',G0,r1,q,p⟩:=q
 unfold jO at q
 split at q
 . rename_i ys
   cases hb:bools ys with
   | none=>rw [hb] at q;cases q
   | some bs =>
    rw [hb] at q;cases q
    simp only [ag,Rel] at r1
    obtain⟨_,_,rfl,⟨a,vs,rfl,hq,hr⟩,rfl⟩:=r1
    obtain⟨u,rfl,ru⟩:=vals1 r
    cases ru
    obtain⟨its,rits,pl,hz⟩:=I.list hq.sq
    have e0:=jy hb hr rits
    subst e0
    have hl:=pl.isList
    have hlt:a<s.heap.objs.size:=by obtain⟨_,e,_⟩:=hl;exact Heap.lt_size e
    refine call_all_walk (wpAny_pyIter_list hl ?_)
    refine⟨s.heap.objs.size,[s.heap.objs.size,a],[s.heap.objs.size],_,_,_,fun i=>(bs[i]?).getD true,rfl,Walks.list (A:=X.A.in1) (I.ok.hd hc) _ a (Nat.ne_of_lt hlt) _,
      ⟨⟨_,Heap.get?_push_size _ rfl,rfl,rfl⟩,hl.push _⟩,fun i v s' Q' E' hP hQ=>?_,fun h' tk hk=>?_⟩
    . have hP':(bs.map Value.bool)[i]? = some v:=by simpa using hP
      rw [List.getElem?_map] at hP'
      cases e:bs[i]? with
      | none=>rw [e] at hP';cases hP'
      | some b =>
       rw [e] at hP';cases hP'
       dsimp only at hQ
       rw [e] at hQ
       exact wpAny_truthy_bool hQ
    . have e:((List.range (bs.map Value.bool).toArray.size).all fun i=>(bs[i]?).getD true)=bs.all id:=by
       rw [List.size_toArray,List.length_map];exact uJ bs
      rw [e]
      exact⟨.bl _,H,I.kept (mh hk),rfl,p H ι _ Ext.refl G0 (by simp [Rel])⟩
 . cases q
end
end L3
namespace L3
open PySem PySem.Spec PyProof.Rows L2
open Sem (wp)
open Builtin
theorem tuple_addW0 (l b:Addr)(items items2:Array Value)(n n2:Nat)(dd dd2:Option Addr)(sl sl2:Array (Option Value))(hc0:items.isEmpty=true) :
  Meets (Builtin.«tuple.__add__» ⟨[.ref l,.ref b],[]⟩) (fun _ R s=>s.heap.get? l=some { cls:=.type "tuple",dict:=dd,data:=.seq items n,slots:=sl }/\s.heap.get? b=some { cls:=.type "tuple",dict:=dd2,data:=.seq items2 n2,slots:=sl2 }/\R (.ok (.ret (Value.ref b))) { s with heap:=s.heap,toks:=s.toks }) :=
 .of_wp fun prog w A R s h=>by obtain⟨hp,g,d,tk,os⟩:=s;obtain⟨hl,hb,h⟩:=h;have f1:=AutoSeq1.idx_int;have f2:=AutoSeq1.sub_tuple_tuple;have f3:=AutoSeq1.sub_list_list;have f4:=AutoSeq1.sub_tuple_list;have f5:=AutoSeq1.sub_list_tuple;wp_walk using AutoSeq1.wpAny_loadPart' hl,AutoSeq1.wpAny_loadPart' hb;exact⟨_,rfl,h⟩
theorem lj:fillsNumberSlot (.type "tuple") "mul" = pure false :=
 PySem.fillsNumberSlot_seq (id:="tuple.__mul__") (r:=some (.builtin "tuple.__rmul__")) F.slot_tuple_mul.lookup (by decide +kernel) F.slot_tuple_rmul.lookup (by decide +kernel)
theorem p_:seqRepeat? (.type "tuple")=pure (some (.builtin "tuple.__mul__")):=by
 unfold seqRepeat?
 rw [PySem.seqSlot_of (T:="tuple") (name:="__mul__") (id:="tuple.__mul__") F.slot_tuple_mul.lookup (by decide +kernel),PySem.seqSlot_of (T:="tuple") (name:="__rmul__") (id:="tuple.__rmul__") F.slot_tuple_rmul.lookup (by decide +kernel)]
 rfl
theorem m_ (a:Int)(t:Tok)(l:Addr)(items:Array Value)(n:Nat)(dd:Option Addr)(sl:Array (Option Value)) :
  Meets (Builtin.«int.__rmul__» ⟨[.int a t,.ref l],[]⟩) (fun _ R s=>s.heap.get? l=some { cls:=.type "tuple",dict:=dd,data:=.seq items n,slots:=sl }/\R (.ok (.ret Value.notImplemented)) s) :=
 .of_wp fun prog w A R s h=>by obtain⟨hp,g,d,tk,os⟩:=s;obtain⟨hl,h⟩:=h;wp_walk;exact⟨_,rfl,h⟩
theorem tM (l:Addr)(items:Array Value)(n:Nat)(dd:Option Addr)(sl:Array (Option Value))(x:Int)(u:Tok)(h0:¬(decide (x < -(2 ^ 63))||decide (x>=2 ^ 63))=true)(h1:¬(items.isEmpty||x == 1)=true)(h2:¬(decide (x<=0)||items.isEmpty)=true)
  (h3:¬(items.size:Int)*x>(2 ^ 63-1) / 8) (h4:¬Builtin.Tuple.tupleTooMany ((items.size:Int)*x)=true) (hsz:((List.replicate x.toNat items).foldl (· ++ ·) #[]).size<=sizeLine) :
  Meets (Builtin.«tuple.__mul__» ⟨[.ref l,.int x u],[]⟩) (fun _ R s=>s.heap.get? l=some { cls:=.type "tuple",dict:=dd,data:=.seq items n,slots:=sl }/\R (.ok (.ret (Value.ref s.heap.objs.size))) { s with heap:=s.heap.push { cls:=Value.type "tuple",data:=Data.seq ((List.replicate x.toNat items).foldl (· ++ ·) #[]) },toks:=s.toks }) :=
 .of_wp fun prog w A R s h=>by
  obtain⟨hp,g,d,tk,os⟩:=s;obtain⟨hl,h⟩:=h
  have f1:=AutoSeq1.idx_int;have f2:=AutoSeq1.sub_tuple_tuple
  wp_walk using AutoSeq1.wpAny_loadPart' hl
  refine wpAny_ite_false (decide_eq_false h0) ?_
  wp_walk using AutoSeq1.wpAny_loadPart' hl
  refine wpAny_ite_false (decide_eq_false h3) ?_
  wp_walk using AutoSeq1.wpAny_loadPart' hl
  exact⟨_,rfl,h⟩
theorem rJ (l:Addr)(items:Array Value)(n:Nat)(dd:Option Addr)(sl:Array (Option Value))(x:Int)(u:Tok)(h0:¬(decide (x < -(2 ^ 63))||decide (x>=2 ^ 63))=true)(h1:(items.isEmpty||x == 1)=true) :
  Meets (Builtin.«tuple.__mul__» ⟨[.ref l,.int x u],[]⟩) (fun _ R s=>s.heap.get? l=some { cls:=.type "tuple",dict:=dd,data:=.seq items n,slots:=sl }/\R (.ok (.ret (Value.ref l))) { s with heap:=s.heap,toks:=s.toks }) :=
 .of_wp fun prog w A R s h=>by
  obtain⟨hp,g,d,tk,os⟩:=s;obtain⟨hl,h⟩:=h
  have f1:=AutoSeq1.idx_int;have f2:=AutoSeq1.sub_tuple_tuple
  wp_walk using AutoSeq1.wpAny_loadPart' hl
  refine wpAny_ite_false (decide_eq_false h0) ?_
  wp_walk using AutoSeq1.wpAny_loadPart' hl
  exact⟨_,rfl,h⟩
theorem rF (l:Addr)(items:Array Value)(n:Nat)(dd:Option Addr)(sl:Array (Option Value))(x:Int)(u:Tok)(h0:¬(decide (x < -(2 ^ 63))||decide (x>=2 ^ 63))=true)(h1:¬(items.isEmpty||x == 1)=true)(h2:(decide (x<=0)||items.isEmpty)=true) :
  Meets (Builtin.«tuple.__mul__» ⟨[.ref l,.int x u],[]⟩) (fun _ R s=>s.heap.get? l=some { cls:=.type "tuple",dict:=dd,data:=.seq items n,slots:=sl }/\R (.ok (.ret (Value.ref s.heap.objs.size))) { s with heap:=s.heap.push { cls:=Value.type "tuple",data:=Data.seq #[] },toks:=s.toks }) :=
 .of_wp fun prog w A R s h=>by
  obtain⟨hp,g,d,tk,os⟩:=s;obtain⟨hl,h⟩:=h
  have f1:=AutoSeq1.idx_int;have f2:=AutoSeq1.sub_tuple_tuple
  wp_walk using AutoSeq1.wpAny_loadPart' hl
  refine wpAny_ite_false (decide_eq_false h0) ?_
  wp_walk using AutoSeq1.wpAny_loadPart' hl
  exact⟨_,rfl,h⟩
section
variable {X:Cx}
def Fx (K:KW):R2:=fun x y H Q=>∃a k xs,x = .ref a/\y = .int k/\dh K H a xs /\ -(2 ^ 63)<=k/\k<2 ^ 63/\xs.length*k.toNat<=16777216 /\
 ((xs = []\/k=1)->Q (.ref a) H)/\(xs ≠ []->k<=0->∀p,H p=none->Q (.ref p) (upd H p (.tup [])))/\(xs ≠ []->2<=k->∀p,H p=none->Q (.ref p) (upd H p (.tup (List.replicate k.toNat xs).flatten)))
theorem AU:bw X (binaryOp .Mult) (Fx X.kw):=by
 intro pins s σ H x y v u Q I rx ry h
 obtain⟨a,k,xs,rfl,rfl,hq,h1,h2,hz,q1,q0,q2⟩:=h
 cases rx
 obtain⟨t,rfl⟩:=ry
 obtain⟨its,r,ht,hzz⟩:=I.tuple hq
 have hl:=r.length
 obtain⟨⟨cls,dd,data,sl⟩,ho,hc,n,hd⟩:=id ht
 simp only at hc hd
 subst hc hd
 have hk:¬(decide (k < -(2 ^ 63))||decide (k>=2 ^ 63))=true:=by
   rw [Bool.or_eq_true,decide_eq_true_eq,decide_eq_true_eq]
   omega
 refine wpAny_binaryOp_repeat_ref (T:="tuple") (U:="int") (by decide) ⟨_,ho,rfl⟩ (fun s'=>typeIs_int s' k t) lj F.fills_int_mul F.slot_int_rmul p_ F.slot_int_index.lookup
   (call_meets F.slot_int_rmul (typeIs_int s k t) F.entry_int_rmul (F.args_int_rmul_2 _ _) (m_ k t a its.toArray n dd sl) ⟨ho,rfl,⟨_,ho,rfl⟩,?_⟩)
 by_cases c1:xs = []\/k=1
 . refine call_meets F.slot_tuple_mul ⟨_,ho,rfl⟩ F.entry_tuple_mul (F.args_tuple_mul_2 _ _) (rJ a its.toArray n dd sl k t hk ?_) ⟨ho,.ref a,H,I,rfl,q1 c1⟩
   rcases c1 with c1 | c1
   . subst c1
     cases r
     simp
   . subst c1;simp
 . have hx:xs ≠ []:=fun e=>c1 (.inl e)
   have hk1:k≠1:=fun e=>c1 (.inr e)
   have hi:its ≠ []:=fun e=>hx (by subst e;cases r;rfl)
   have n1:¬(its.toArray.isEmpty||k == 1)=true:=by simp [hi,hk1]
   have fresh:H s.heap.objs.size=none:=I.hok.fresh (Nat.le_refl _)
   by_cases c0:k<=0
   . refine call_meets F.slot_tuple_mul ⟨_,ho,rfl⟩ F.entry_tuple_mul (F.args_tuple_mul_2 _ _) (rF a its.toArray n dd sl k t hk n1 (by simp [c0])) ⟨ho,?_⟩
     refine⟨.ref _,_,I.laid (t':=s.toks) (fun b u e=>Heap.get?_push_of_some _ e) (Nat.le_refl _) ?_,rfl,q0 hx c0 _ fresh⟩
     exact⟨Nat.zero_le _,[],.nil,⟨_,Heap.get?_push_size _ rfl,rfl,⟨_,rfl⟩,rfl⟩⟩
   . have hnew:List.foldl (fun x1 x2=>x1++x2) #[] (List.replicate k.toNat its.toArray)=(List.replicate k.toNat its).flatten.toArray:=by
       have:=foldl_rep its k.toNat []
       rw [List.nil_append] at this
       exact this
     have hs:sizeLine=16777216:=sizeLine_eq
     have hsz:(its.length:Int)*k<=16777216:=by
       have e1:((xs.length*k.toNat:Nat):Int)<=16777216:=Int.ofNat_le.mpr hz
       rw [Int.natCast_mul,Int.toNat_of_nonneg (by omega),hl] at e1
       exact e1
     refine call_meets F.slot_tuple_mul ⟨_,ho,rfl⟩ F.entry_tuple_mul (F.args_tuple_mul_2 _ _) (tM a its.toArray n dd sl k t hk n1 (by simp [c0,hi]) (by rw [List.size_toArray];omega) ?_ ?_) ⟨ho,?_⟩
     . rw [List.size_toArray]
       unfold Tuple.tupleTooMany
       simp
       omega
     . rw [hnew,List.size_toArray,len_rep,<- hl,Nat.mul_comm,hs];exact hz
     . rw [hnew]
       refine⟨.ref _,_,I.laid (t':=s.toks) (fun b u e=>Heap.get?_push_of_some _ e) (Nat.le_refl _) ?_,rfl,q2 hx (by omega) _ fresh⟩
       exact⟨by rw [len_rep,Nat.mul_comm,hs];exact hz,_,r.rep k.toNat,⟨_,Heap.get?_push_size _ rfl,rfl,⟨_,rfl⟩,rfl⟩⟩
theorem ag.rep {K H ι}{xs:List D}{vs:List V}(r:ag K H ι xs vs):∀k:Nat,ag K H ι (List.replicate k xs).flatten (List.replicate k vs).flatten
 | 0=>by simp [ag]
 | k+1=>by
  rw [List.replicate_succ,List.replicate_succ,List.flatten_cons,List.flatten_cons]
  exact ag.append r (ag.rep r k)
def bM (d1 d2:D)(g:G):Option (D×G):=match d1,d2 with
 | .int i,.int j=>if cG i j=true then some (.int (i*j),g) else none
 | .tup xs,.int k=>if(fF k&&aF (xs.length*k.toNat))=true then some (.tup (List.replicate k.toNat xs).flatten,g) else none
 | _,_=>none
theorem Cg:bw X (binaryOp .Mult) (cA X.kw bM):=by
 intro pins s σ H x y v u Q I rx ry q
 obtain⟨ι,g,d1,d2,d,g',G0,r1,r2,q,p⟩:=q
 unfold bM at q
 split at q
 . split at q
   . rename_i i j z
     exact z0 pins s σ H x y v u Q I rx ry ⟨ι,g,.int i,.int j,d,g',G0,r1,r2,by simp only [aY];rw [if_pos z];exact q,p⟩
   . cases q
 . split at q
   . rename_i xs k z
     simp only [Bool.and_eq_true] at z
     have z1:=fF.and z.1
     have z2:=aF.le z.2
     cases q
     simp only [Rel] at r1 r2
     obtain⟨a,vs,rfl,hq,hr⟩:=r1
     subst r2
     have hl:=hr.length
     have new:∀{zs:List D} {ws:List V},ag X.kw H ι zs ws->zs=(List.replicate k.toNat xs).flatten->∀q,H q=none->Q (.ref q) (upd H q (.tup ws)):=fun {zs ws} rz ez q hq'=>by
       subst ez
       refine p _ _ _ (Ext.lay hq') (G0.lay hq') ?_
       simp only [Rel]
       exact⟨q,ws,rfl,.inl ⟨.inl aX,G0.fresh hq'⟩,ag.ext (Ext.lay hq') _ rz⟩
     refine AU pins s σ H _ _ v u Q I rx ry ⟨a,k,vs,rfl,rfl,hq.sq,(by omega),(by omega),by rw [<- hl];exact z2,fun c=>?_,fun hx hk=>?_,fun hx hk=>?_⟩
     . refine p H ι _ Ext.refl G0 ?_
       simp only [Rel]
       refine⟨a,vs,rfl,hq,?_⟩
       rcases c with c | c
       . subst c
         have:xs = []:=List.eq_nil_of_length_eq_zero (by simpa using hl)
         subst this
         have e0:(List.replicate k.toNat ([]:List D)).flatten = []:=by simp
         rw [e0];exact hr
       . subst c
         have e0:(List.replicate (1:Int).toNat xs).flatten=xs:=by simp
         rw [e0];exact hr
     . refine new (zs:=[]) (by simp [ag]) ?_
       have:k.toNat=0:=by omega
       rw [this];simp
     . exact new (hr.rep k.toNat) rfl
   . cases q
 . cases q
theorem xQ:bw X (binaryOp .Add) (fun x y H Q=>∃a b ys,x = .ref a/\y = .ref b/\dh X.kw H a []/\dh X.kw H b ys/\Q (.ref b) H):=by
 intro pins s σ H x y v u Q I rx ry h
 obtain⟨a,b,ys,rfl,rfl,ha,hb,q⟩:=h
 cases rx
 cases ry
 obtain⟨its,r1,p1,_⟩:=I.tuple ha
 obtain⟨its2,r2,p2,_⟩:=I.tuple hb
 obtain⟨⟨cls,dd,data,sl⟩,ho,hc,n,hd⟩:=id p1
 obtain⟨⟨cls2,dd2,data2,sl2⟩,ho2,hc2,n2,hd2⟩:=id p2
 simp only at hc hd hc2 hd2
 subst hc hd hc2 hd2
 exact concat_meets ⟨_,ho,rfl⟩ ⟨_,ho2,rfl⟩ noFill_tuple_add seq_tuple_add PySem.F.slot_tuple_add PySem.F.entry_tuple_add (PySem.F.args_tuple_add_2 _ _)
  (tuple_addW0 a b its.toArray its2.toArray n n2 dd dd2 sl sl2 (by cases r1;simp)) ⟨ho,ho2,.ref b,H,I,rfl,q⟩
theorem AE:bw X (binaryOp .Add) (fun x y H Q=>∃a b xs ys,x = .ref a/\y = .ref b/\cD X.kw H a xs/\cD X.kw H b ys/\xs.length+ys.length<=sizeLine /\ ∀p,H p=none->Q (.ref p) (upd H p (.lst (xs++ys)))):=by
 intro pins s σ H x y v u Q I rx ry h
 obtain⟨a,b,xs,ys,rfl,rfl,ha,hb,hz,q⟩:=h
 cases rx
 cases ry
 obtain⟨its,r1,p1,_⟩:=I.list ha
 obtain⟨its2,r2,p2,_⟩:=I.list hb
 obtain⟨⟨cls,dd,data,sl⟩,n,ho,hc,hdd,hd⟩:=id p1
 obtain⟨⟨cls2,dd2,data2,sl2⟩,n2,ho2,hc2,hdd2,hd2⟩:=id p2
 simp only at hc hd hc2 hd2 hdd hdd2
 subst hc hd hc2 hd2 hdd hdd2
 have e:its.toArray++its2.toArray=(its++its2).toArray:=by simp
 have hl:its.length+its2.length<=sizeLine:=by rw [<- r1.length,<- r2.length];exact hz
 refine concat_meets ⟨_,ho,rfl⟩ ⟨_,ho2,rfl⟩ noFill_list_add seq_list_add PySem.F.slot_list_add PySem.F.entry_list_add (PySem.F.args_list_add_2 _ _) (list_addW a b its.toArray its2.toArray n n2 none none sl sl2 (by simpa using hl)) ⟨ho,ho2,?_⟩
 rw [e]
 exact⟨.ref _,_,I.Jc (t':=s.toks) (r1.append r2) (by rw [List.length_append];exact hz),rfl,q _ I.fresh⟩
def dP (d:D)(g:G):Option (List D):=match d with
 | .lst xs=>some xs
 | .ref n=>g[n]?
 | _=>none
theorem fQ {K H ι g d v xs}(G0:ay K H ι g)(r:Rel K H ι d v)(h:dP d g=some xs):∃a vs,v = .ref a/\cD K H a vs/\ag K H ι xs vs:=by
 cases d with
 | lst ys =>
  cases h
  simp only [Rel] at r
  obtain⟨a,vs,rfl,hq,hr⟩:=r
  exact⟨a,vs,rfl,hq.sq,hr⟩
 | ref n =>
  simp only [Rel] at r
  obtain⟨a,rfl,ha⟩:=r
  obtain⟨vs,h1,h2⟩:=G0.at h ha
  exact⟨a,vs,rfl,.of h1,h2⟩
 | _=>cases h
def aM (d1 d2:D)(g:G):Option (D×G):=match d1,d2 with
 | .int i,.int j=>some (.int (i+j),g)
 | .tup xs,.tup ys=>if aF (xs.length+ys.length)=true then some (.tup (xs++ys),g) else none
 | .str i,.str j=>if aF (i.length+j.length)=true then some (.str (i++j),g) else none
 | d1,d2=>match dP d1 g,dP d2 g with
  | some xs,some ys=>if aF (xs.length+ys.length)=true then some (.lst (xs++ys),g) else none
  | _,_=>none
theorem DP:bw X (binaryOp .Add) (cA X.kw aM):=by
 intro pins s σ H x y v u Q I rx ry q
 obtain⟨ι,g,d1,d2,d,g',G0,r1,r2,q,p⟩:=q
 unfold aM at q
 split at q
 . rename_i i j
   exact A8 pins s σ H x y v u Q I rx ry ⟨ι,g,.int i,.int j,d,g',G0,r1,r2,q,p⟩
 . split at q
   . rename_i xs ys z
     cases q
     simp only [Rel] at r1 r2
     obtain⟨a,vs,rfl,hq,hr⟩:=r1
     obtain⟨b,ws,rfl,hq2,hr2⟩:=r2
     by_cases hx:vs = []
     . subst hx
       have:xs = []:=List.eq_nil_of_length_eq_zero (by simpa using hr.length)
       subst this
       refine xQ pins s σ H _ _ v u Q I rx ry ⟨a,b,ws,rfl,rfl,hq.sq,hq2.sq,p H ι _ Ext.refl G0 ?_⟩
       simp only [Rel,List.nil_append]
       exact⟨b,ws,rfl,hq2,hr2⟩
     . refine zZ pins s σ H _ _ v u Q I rx ry ⟨a,b,vs,ws,rfl,rfl,hq.sq,hq2.sq,hx,by rw [<- hr.length,<- hr2.length];exact aF.le z,fun e=>?_,fun e q' hq'=>?_⟩
       . subst e
         have:ys = []:=List.eq_nil_of_length_eq_zero (by simpa using hr2.length)
         subst this
         refine p H ι _ Ext.refl G0 ?_
         simp only [Rel,List.append_nil]
         exact⟨a,vs,rfl,hq,hr⟩
       . refine p _ _ _ (Ext.lay hq') (G0.lay hq') ?_
         simp only [Rel]
         exact⟨q',_,rfl,.inl ⟨.inl aX,G0.fresh hq'⟩,ag.ext (Ext.lay hq') _ (ag.append hr hr2)⟩
   . cases q
 . split at q
   . rename_i x1 y1 z
     cases q
     simp only [Rel] at r1 r2
     subst r1 r2
     exact tV pins s σ H _ _ v u Q I rx ry ⟨x1,y1,rfl,rfl,aF.le z,p H ι _ Ext.refl G0 (by simp [Rel])⟩
   . cases q
 . split at q
   . rename_i xs ys e1 e2
     split at q
     . rename_i z
       cases q
       obtain⟨a,vs,rfl,hq,hr⟩:=fQ G0 r1 e1
       obtain⟨b,ws,rfl,hq2,hr2⟩:=fQ G0 r2 e2
       refine AE pins s σ H _ _ v u Q I rx ry ⟨a,b,vs,ws,rfl,rfl,hq,hq2,by rw [<- hr.length,<- hr2.length];exact aF.le z,fun q' hq'=>?_⟩
       refine p _ _ _ (Ext.lay hq') (G0.lay hq') ?_
       simp only [Rel]
       exact⟨q',_,rfl,.inl ⟨.inl aX,G0.fresh hq',G0.fX hq'⟩,ag.ext (Ext.lay hq') _ (ag.append hr hr2)⟩
     . cases q
   . cases q
abbrev FO:=Sg->G->Option (Option Int×G)
inductive HE (K:KW)(f:FO)(σ:L2.St)(H:Hp)(Q:(Option Int->Hp->Prop)):Prop
 | mk (ι:Ix) (σd:Sg) (g:G) (o:Option Int) (g':G) (h0:ay K H ι g) (h1:a_ K H ι σd σ) (h2:f σd g=some (o,g')) (h3:mw K H ι g' (Q o)):HE K f σ H Q
structure DO (X:Cx)(e:Option Expr)(f:FO):Prop where of ::
 un:PO X e (HE X.kw f)
theorem PO.imp {X:Cx}{e:Option Expr}{t t':TO}(h:PO X e t)(i:∀σ H Q,t' σ H Q->t σ H Q):PO X e t':=fun pins s σ H Q I q=>h pins s σ H Q I (i σ H Q q)
def cP:FO:=fun _ g=>some (none,g)
def cf (f:FE):FO:=fun σ g=>(f σ g).bind fun r=>match r.1 with | .int i=>some (some i,r.2) | _=>none
theorem Bu:DO X none cP:=.of (PO.imp BA fun σ H Q h=>by
 obtain⟨ι,σd,g,o,g',G0,S0,h,p⟩:=h
 cases h
 exact p H ι Ext.refl G0)
theorem Aj {e:Expr}{f:FE}(h:DE X e f):DO X (some e) (cf f):=.of (PO.imp (Bo h.un) fun σ H Q h=>by
 obtain⟨ι,σd,g,o,g',G0,S0,h,p⟩:=h
 obtain⟨⟨d,g1⟩,h1,h⟩:=bind_some h
 cases d with
 | int i =>
  cases h
  exact tD.bind G0 S0 h1 fun H1 ι1 v e1 G1 S1 r1=>⟨i,by simpa [Rel] using r1,p H1 ι1 e1 G1⟩
 | _=>cases h)
def cutD (xs:List D)(lo hi:Option Int):List D:=(xs.drop (HT.bq xs.length 0 lo)).take (HT.bq xs.length xs.length hi-HT.bq xs.length 0 lo)
def eL (n:Nat)(lo hi:Option Int):Bool:=decide (HT.bq n 0 lo=0)&&decide (HT.bq n n hi=n)
def lY (d:D)(lo hi:Option Int)(g:G):Option (D×G):=match d with
 | .tup xs=>if eL xs.length lo hi=true then none else some (.tup (cutD xs lo hi),g)
 | .lst xs=>some (.lst (cutD xs lo hi),g)
 | .ref n=>match g[n]? with | some xs=>some (.lst (cutD xs lo hi),g) | none=>none
 | _=>none
theorem ag.Cn {K H ι}{xs:List D}{vs:List V}(r:ag K H ι xs vs)(lo hi:Option Int):ag K H ι (cutD xs lo hi) (jW vs lo hi):=by
 unfold cutD jW
 rw [<- r.length]
 exact ag.take _ (ag.drop _ r)
def BM (K:KW):V->Option Int->Option Int->Hp->VK->Prop:=fun x lo hi H Q=>Fe K x lo hi H Q\/Ew K x lo hi H Q
theorem z6:kQ X (BM X.kw):=by
 intro pins s σ H x v vl vu lo hi sl Q I rx hs pl pu h
 rcases h with h | h
 . exact Ej pins s σ H x v vl vu lo hi sl Q I rx hs pl pu h
 . exact Be pins s σ H x v vl vu lo hi sl Q I rx hs pl pu h
theorem big {pins:List (Addr×Obj)}{σ:L2.St}{H:Hp}{s:Shared}(I:Inv X pins σ H s):sysModules<s.heap.objs.size:=by
 obtain⟨o,es,ep,e,_⟩:=I.mod.glob
 have h1:=Heap.lt_size (I.bk _ _ e)
 exact Nat.lt_trans (by decide) h1
theorem yb {pos:Pos}:DE X (.Dict [] [] pos) (fC .edc):=.of (by
 intro pins s σ H Q I h
 obtain⟨ι,σd,g,d,g',G0,S0,h,p⟩:=h
 cases h
 have hf:H s.heap.objs.size=none:=I.hok.fresh (Nat.le_refl _)
 refine wpAny_Dict_empty ⟨.ref s.heap.objs.size,upd H s.heap.objs.size (.dK []),I.laid (t':=s.toks) (fun b u e=>Heap.get?_push_of_some _ e) (Nat.le_refl _) ?_,rfl,p _ _ _ (Ext.lay hf) (G0.lay hf) ?_⟩
 . exact⟨Nat.zero_le _,beq_eq_false_iff_ne.mpr (Ne.symm (Nat.ne_of_lt (big I))),[],.nil,Heap.DictOf.new _⟩
 . simp only [Rel]
   exact⟨_,rfl,aX,G0.fresh hf⟩)
end
end L3
namespace L3
open PySem PySem.Spec PyProof.Rows L2
def oLt:=mE fun i j=>decide (i<j)
def oLe:=mE fun i j=>decide (i<=j)
def sv:=mE fun i j=>decide (j<i)
def uW:=mE fun i j=>decide (j<=i)
def mK (S:Scope)(XN N:List Str)(fr:List (Option Nat))(scope:Scope):Bool :=
 decide (scope.kind = .function)&&scope.names.all (fun y=>decide (y.2 ≠ .cell))&&scope.names.all (fun y=>!decide (y.2 = .local)||decide (scope.names.lookup y.1=some .local)) &&
 scope.names.all (fun y=>!decide (y.2 = .free)||(decide (scope.names.lookup y.1=some .free)&&(decide (S.names.lookup y.1=some .cell)||decide (S.names.lookup y.1=some .free)))) &&
 decide (fr.length=N.length)&&(List.range fr.length).all (fun j=>match fr[j]? with
  | some (some i)=>match N[j]? with
   | some x=>decide (XN[i]? = some x)&&decide (scope.names.lookup x=some .free)
   | none=>false
  | _=>true)
theorem wu {X:Cx}{N:List Str}{fr:List (Option Nat)}{scope:Scope}{S:Scope}{XN:List Str}(hS:X.env.scope=S)(hN:X.N=XN)(h:mK S XN N fr scope=true):dq X N fr scope:=by
 unfold mK at h
 simp only [Bool.and_eq_true,decide_eq_true_eq,List.all_eq_true,Bool.or_eq_true,Bool.not_eq_true',decide_eq_false_iff_not] at h
 obtain⟨⟨⟨⟨⟨h1,h2⟩,h3⟩,h4⟩,h5⟩,h6⟩:=h
 refine⟨h1,h2,fun y hy e=>?_,fun y hy e=>?_,h5,fun j i hf=>?_⟩
 . rcases h3 y hy with z | z
   . exact absurd e z
   . exact z
 . rcases h4 y hy with z | z
   . exact absurd e z
   . refine⟨z.1,?_⟩
     show X.env.scope.names.lookup y.1=_\/X.env.scope.names.lookup y.1=_
     rw [hS];exact z.2
 . have hj:j∈List.range fr.length:=List.mem_range.mpr (List.getElem?_eq_some_iff.mp hf).1
   have:=h6 j hj
   rw [hf] at this
   dsimp only at this
   split at this
   . rename_i x hx
     simp only [Bool.and_eq_true,decide_eq_true_eq] at this
     exact⟨x,hx,by rw [hN];exact this.1,this.2⟩
   . cases this
def b_ (f:FE):FI:=fun σ g=>(f σ g).bind fun r=>match r.1 with | .tup xs=>some (xs,r.2) | .lst xs=>some (xs,r.2) | _=>none
theorem qO {X:Cx}{tg l:Expr}{fe:FE}(hl:DE X l fe):DI X tg l (b_ fe):=.of (by
 intro pins s σ H R I h
 obtain⟨ι,σd,g,ds,g',G0,S0,h,p⟩:=h
 obtain⟨⟨d1,g1⟩,h1,h2⟩:=bind_some h
 cases d1 with
 | tup xs =>
  have h3:oO fe σd g=some (ds,g'):=by unfold oO;rw [h1];exact h2
  exact(C_ hl).un pins s σ H R I ⟨ι,σd,g,ds,g',G0,S0,h3,p⟩
 | lst xs =>
  have h3:oC fe σd g=some (ds,g'):=by unfold oC;rw [h1];exact h2
  exact(B0 hl).un pins s σ H R I ⟨ι,σd,g,ds,g',G0,S0,h3,p⟩
 | _=>cases h2)
end L3
namespace L3
open PySem L2
section
variable {σ:Sg}{g:G}{fa fb fc:FE}{fr:FA}{ga gb:FT}{f1 f2:FS}{o o':D->D->G->Option (D×G)}{fn:Fn}{t:FG}{ts:kM}
@[simp] theorem tU {d}:fC d σ g=some (d,g):=rfl
@[simp] theorem fS {i:Nat}:aa i σ g=(match σ[i]? with | some (some d)=>some (d,g) | _=>none):=rfl
@[simp] theorem pL:aj o fa fb σ g=(fa σ g).bind fun r=>(fb σ r.2).bind fun q=>o r.1 q.1 q.2:=rfl
@[simp] theorem KQ {o:D->G->Option (D×G)}:uY o fa σ g=(fa σ g).bind fun r=>o r.1 r.2:=rfl
@[simp] theorem Lr {b:Bool}:ju (some (.bl b,g))=some (b,g):=rfl
@[simp] theorem Iz:az fa σ g=ju (fa σ g):=rfl
@[simp] theorem J0:dg fa σ g=(fa σ g).bind fun r=>(iA r.1 r.2).map fun b=>(b,r.2):=rfl
@[simp] theorem GQ {b:Bool}:iA (.bl b) g=some b:=rfl
@[simp] theorem GK {i:Int}:iA (.int i) g=some (i != 0):=rfl
@[simp] theorem J7:cL ga gb σ g=(ga σ g).bind fun r=>if r.1=true then gb σ r.2 else some (false,r.2):=rfl
@[simp] theorem K_:ib ga gb σ g=(ga σ g).bind fun r=>if r.1=true then some (true,r.2) else gb σ r.2:=rfl
@[simp] theorem Ki:gR ga σ g=(ga σ g).bind fun r=>some (!r.1,r.2):=rfl
@[simp] theorem IH:ij fa fb σ g=(ju (fa σ g)).bind fun r=>if r.1=true then fb σ r.2 else some (.bl false,r.2):=rfl
@[simp] theorem J3:qX fa fb σ g=(ju (fa σ g)).bind fun r=>if r.1=true then some (.bl true,r.2) else fb σ r.2:=rfl
@[simp] theorem Ky:pM ga fa fb σ g=(ga σ g).bind fun r=>if r.1=true then fa σ r.2 else fb σ r.2:=rfl
@[simp] theorem kH:ao σ g=some ([],g):=rfl
@[simp] theorem gX:af fa fr σ g=(fa σ g).bind fun r=>(fr σ r.2).bind fun q=>some (r.1::q.1,q.2):=rfl
@[simp] theorem vT {m:List D->G->Option (D×G)}:aG m fr σ g=(fr σ g).bind fun r=>m r.1 r.2:=rfl
theorem Br {n:Nat}:aF n=decide (n<=16777216):=rfl
@[simp] theorem GC {n:Nat}(h:n<=16777216):aF n=true:=decide_eq_true h
@[simp] theorem Hj {ds:List D}:aD ds g=if aF ds.length=true then some (.tup ds,g) else none:=rfl
@[simp] theorem Hx {ds:List D}:b8 ds g=if aF ds.length=true then some (.lst ds,g) else none:=rfl
@[simp] theorem Hb {ds:List D}:mkRef ds g=if aF ds.length=true then some (.ref g.length,g ++ [ds]) else none:=rfl
@[simp] theorem Im:aR σ g=some (.nx,σ,g):=rfl
@[simp] theorem dy:ax f1 f2 σ g=(f1 σ g).bind fun r=>match r.1 with | .nx=>f2 r.2.1 r.2.2 | _=>some r:=rfl
@[simp] theorem nj:aQ fa σ g=(fa σ g).bind fun r=>some (.rt r.1,σ,r.2):=rfl
@[simp] theorem iR:bH ga f1 f2 σ g=(ga σ g).bind fun r=>if r.1=true then f1 σ r.2 else f2 σ r.2:=rfl
@[simp] theorem x5:cc fa σ g=(fa σ g).bind fun r=>some (.nx,σ,r.2):=rfl
@[simp] theorem Ae:aA fa t σ g=(fa σ g).bind fun r=>(t r.1 σ r.2).bind fun q=>some (.nx,q.1,q.2):=rfl
@[simp] theorem Lw {i:Nat}{d:D}:gN i d σ g=some (σ.set i (some d),g):=rfl
@[simp] theorem Jr:aK [] σ g=some (σ,g):=rfl
@[simp] theorem GX {d:D}{r:List D}:aq t ts (d::r) σ g=(t d σ g).bind fun q=>ts r q.1 q.2:=rfl
@[simp] theorem Lu {n:Nat}{xs:List D}:gT n ts (.tup xs) σ g=if xs.length=n then ts xs σ g else none:=rfl
@[simp] theorem kY:au fn fr σ g=(fr σ g).bind fun r=>fn r.1 r.2:=rfl
@[simp] theorem Kb {T:Ty}:lb T fa σ g=(fa σ g).bind fun r=>if isFn r.1=true then none else some (.bl (hX T r.1),r.2):=rfl
@[simp] theorem mZ {i:FI}:cI i t f1 σ g=(i σ g).bind fun r=>forL t f1 r.1 σ r.2:=rfl
@[simp] theorem Kj:b_ fa σ g=(fa σ g).bind fun r=>match r.1 with | .tup xs=>some (xs,r.2) | .lst xs=>some (xs,r.2) | _=>none:=rfl
@[simp] theorem H0:oO fa σ g=(fa σ g).bind fun r=>match r.1 with | .tup xs=>some (xs,r.2) | _=>none:=rfl
@[simp] theorem IB:oC fa σ g=(fa σ g).bind fun r=>match r.1 with | .lst xs=>some (xs,r.2) | _=>none:=rfl
@[simp] theorem ye {mk:List D->G->Option (D×G)}{fi:FI}{fr:List (Option Nat)}{c:FT}:bU mk fi fr t c fa σ g=(fi σ g).bind fun r=>if aF r.1.length=true then(bW t c fa r.1 (bu fr σ) r.2).bind fun q=>mk q.1 q.2 else none:=rfl
@[simp] theorem J_ {ds:List D}:bB ds g=some (.lst ds,g):=rfl
@[simp] theorem Iy:bC σ g=some (true,g):=rfl
@[simp] theorem KZ {c:Int->Int->Bool}{f:Int->Int->Int}{i j:Int}:aY c f (.int i) (.int j) g=if c i j=true then some (.int (f i j),g) else none:=rfl
@[simp] theorem Ii {i j:Int}:bQ i j=true:=rfl
@[simp] theorem Lq {i j:Int}:oLt (.int i) (.int j) g=some (.bl (decide (i<j)),g):=rfl
@[simp] theorem Lp {i j:Int}:oLe (.int i) (.int j) g=some (.bl (decide (i<=j)),g):=rfl
@[simp] theorem Lh {i j:Int}:sv (.int i) (.int j) g=some (.bl (decide (j<i)),g):=rfl
@[simp] theorem KY {i j:Int}:uW (.int i) (.int j) g=some (.bl (decide (j<=i)),g):=rfl
@[simp] theorem Kr {i:Int}:qH (.int i) g=some (.int (-i),g):=rfl
@[simp] theorem JZ {i j:Int}:aM (.int i) (.int j) g=some (.int (i+j),g):=rfl
@[simp] theorem Kw {i j:Int}:bM (.int i) (.int j) g=if cG i j=true then some (.int (i*j),g) else none:=rfl
@[simp] theorem K5 {d:D}{i:Int}:iL d (.int i) g=(bZ d g).bind fun xs=>(dz xs i).map fun e=>(e,g):=rfl
@[simp] theorem Ko {xs:List D}:bZ (.tup xs) g=some xs:=rfl
@[simp] theorem Kl {xs:List D}:bZ (.lst xs) g=some xs:=rfl
@[simp] theorem Kq {n:Nat}:bZ (.ref n) g=g[n]?:=rfl
@[simp] theorem Kv {d:D}:cU [d] g=(bZ d g).map fun xs=>(.int xs.length,g):=rfl
@[simp] theorem J6 {i j:Int}:mU [.int i,.int j] g=some (.int (if j>i then j else i),g):=rfl
@[simp] theorem Ks {i j:Int}:nF [.int i,.int j] g=some (.int (if j<i then j else i),g):=rfl
@[simp] theorem IX {k:Bool}:gn [.bl k] g=some (.int (if k then 1 else 0),g):=rfl
@[simp] theorem H4 {i:Int}:gn [.int i] g=some (.int i,g):=rfl
@[simp] theorem Kf {d:D}:de [d] g=(bZ d g).bind fun xs=>if aF xs.length=true then some (.tup xs,g) else none:=rfl
@[simp] theorem J9 {xs:List D}:jO [.lst xs] g=(bools xs).map fun bs=>(.bl (bs.all id),g):=rfl
@[simp] theorem JY {i j:Int}:oEq (.int i) (.int j) g=some (.bl (i == j),g):=rfl
@[simp] theorem Kc {i j:Bool}:oEq (.bl i) (.bl j) g=some (.bl (i == j),g):=rfl
@[simp] theorem Kk {i j:Str}:oEq (.str i) (.str j) g=some (.bl (i == j),g):=rfl
@[simp] theorem Ka {d:D}:xp d .non g=some (.bl (cx d),g):=rfl
@[simp] theorem Il {d:D}:uv d .non g=some (.bl (!cx d),g):=rfl
theorem dE {nN nP:Nat}{ds:List D}{b:FS}{σ':Sg}{d:D}{g':G}(hl:ds.length=nP)(h:b (ds.map some++List.replicate (nN-nP) none) g=some (.rt d,σ',g'))(hg:g'.length=g.length):aJ false nN nP b ds g=some (d,g'):=by
 unfold aJ
 rw [if_pos hl,h]
 have e:settle g.length d g'=some (d,g'):=by
  unfold settle
  rw [if_pos hg]
 simpa using e
theorem se {nN nP:Nat}{ds:List D}{b:FS}{σ':Sg}{d:D}{g':G}(hl:ds.length=nP)(h:b (ds.map some++List.replicate (nN-nP) none) g=some (.rt d,σ',g')):aJ true nN nP b ds g=some (d,g'):=by
 unfold aJ
 rw [if_pos hl,h]
 rfl
end
theorem gE {t:FG}{c:FT}{e:FE}{h:D->D}(I:Sg->Prop):∀(ds:List D) (σ:Sg) (g:G),I σ->(∀d∈ds,∀σ,I σ->∃σ1,t d σ g=some (σ1,g)/\c σ1 g=some (true,g)/\e σ1 g=some (h d,g)/\I σ1)->bW t c e ds σ g=some (ds.map h,g)
 | [],_,_,_,_=>rfl
 | d::ds,σ,g,hi,hh=>by
  obtain⟨σ1,h1,h2,h3,h4⟩:=hh d List.mem_cons_self σ hi
  simp only [bW,h1,h2,h3,Option.bind_some,if_true,gE I ds σ1 g h4 fun x hx=>hh x (List.mem_cons_of_mem _ hx),List.map_cons]
theorem dX {α:Type}(f:α->Bool):∀xs:List α,bools (xs.map fun x=>D.bl (f x))=some (xs.map f)
 | []=>rfl
 | x::xs=>by simp only [List.map_cons,bools,dX f xs,Option.map_some]
@[simp] theorem IZ {α:Type}{σ:List (Option α)}:bu [] σ = []:=rfl
@[simp] theorem Hn {α:Type}{σ:List (Option α)}{fr:List (Option Nat)}:bu (none::fr) σ=none::bu fr σ:=rfl
@[simp] theorem G4 {α:Type}{σ:List (Option α)}{fr:List (Option Nat)}{i:Nat}:bu (some i::fr) σ=(σ[i]?).join::bu fr σ:=rfl
end L3
namespace L3
open PySem PySem.Spec PyProof.Rows L2
def sZ (c:Bool):D->Bool
 | .bl b=>b == c
 | _=>false
def isLit (d1 d2:D):Option Bool:=match d2 with
 | .non=>some (cx d1)
 | .bl c=>some (sZ c d1)
 | _=>none
def rT (d1 d2:D)(g:G):Option (D×G):=(isLit d1 d2).map fun b=>(.bl b,g)
def bO (d1 d2:D)(g:G):Option (D×G):=(isLit d1 d2).map fun b=>(.bl (!b),g)
section
variable {X:Cx}
theorem v_ {K H ι d v u c}(r:Rel K H ι d v)(rx:RelV v u):(u == Value.bool c)=sZ c d/\PySem.plainIs u (.bool c)=true:=by
 cases d with
 | non=>simp only [Rel] at r;subst r;cases rx;exact⟨rfl,rfl⟩
 | bl b=>simp only [Rel] at r;subst r;cases rx;exact⟨by cases b<;>cases c<;>rfl,rfl⟩
 | int _=>simp only [Rel] at r;subst r;obtain⟨t,rfl⟩:=rx;exact⟨rfl,rfl⟩
 | str _=>simp only [Rel] at r;subst r;obtain⟨t,rfl⟩:=rx;exact⟨rfl,rfl⟩
 | tup _=>simp only [Rel] at r;obtain⟨a,vs,rfl,_⟩:=r;cases rx;exact⟨rfl,rfl⟩
 | lst _=>simp only [Rel] at r;obtain⟨a,vs,rfl,_⟩:=r;cases rx;exact⟨rfl,rfl⟩
 | edc=>simp only [Rel] at r;obtain⟨a,rfl,_⟩:=r;cases rx;exact⟨rfl,rfl⟩
 | ref _=>simp only [Rel] at r;obtain⟨a,rfl,_⟩:=r;cases rx;exact⟨rfl,rfl⟩
 | aI _=>simp only [Rel] at r;obtain⟨a,rfl,_⟩:=r;cases rx;exact⟨rfl,rfl⟩
 | fn _=>simp only [Rel] at r;obtain⟨a,rfl,_⟩:=r;cases rx;exact⟨rfl,rfl⟩
theorem Gh:bw X (compareOp .Is) (cA X.kw rT):=by
 intro pins s σ H x y v u Q I rx ry q
 obtain⟨ι,g,d1,d2,d,g',G0,r1,r2,q,p⟩:=q
 cases d2 with
 | non=>exact Dk pins s σ H x y v u Q I rx ry ⟨ι,g,d1,.non,d,g',G0,r1,r2,q,p⟩
 | bl c =>
  simp only [Rel] at r2;subst r2;cases ry
  simp only [rT,isLit,Option.map_some] at q
  cases q
  obtain⟨e,z⟩:=v_ (c:=c) r1 rx
  refine wpAny_is_plain z ?_
  rw [e]
  exact⟨.bl _,H,I,rfl,p H ι _ Ext.refl G0 (by simp [Rel])⟩
 | _=>cases q
theorem Bh:bw X (compareOp .IsNot) (cA X.kw bO):=by
 intro pins s σ H x y v u Q I rx ry q
 obtain⟨ι,g,d1,d2,d,g',G0,r1,r2,q,p⟩:=q
 cases d2 with
 | non=>exact Ac pins s σ H x y v u Q I rx ry ⟨ι,g,d1,.non,d,g',G0,r1,r2,q,p⟩
 | bl c =>
  simp only [Rel] at r2;subst r2;cases ry
  simp only [bO,isLit,Option.map_some] at q
  cases q
  obtain⟨e,z⟩:=v_ (c:=c) r1 rx
  refine wpAny_isNot_plain z ?_
  rw [e]
  exact⟨.bl _,H,I,rfl,p H ι _ Ext.refl G0 (by simp [Rel])⟩
 | _=>cases q
end
@[simp] theorem Lk {d1 d2:D}{g:G}:rT d1 d2 g=(isLit d1 d2).map fun b=>(.bl b,g):=rfl
@[simp] theorem Jd {d1 d2:D}{g:G}:bO d1 d2 g=(isLit d1 d2).map fun b=>(.bl (!b),g):=rfl
@[simp] theorem G_ {d1:D}:isLit d1 .non=some (cx d1):=rfl
@[simp] theorem Hc {d:D}{c:Bool}:isLit d (.bl c)=some (sZ c d):=rfl
@[simp] theorem JX {b c:Bool}:sZ c (.bl b)=(b == c):=rfl
def Ix.none (ι:Ix):Ix:=⟨[],ι.ix++ι.hd,ι.kd⟩
def xk:HO->Bool
 | .tup _=>true
 | .frz _ _=>true
 | .dK _=>true
 | _=>false
mutual
theorem Rel.toN {K H ι}:∀(d:D) {v:V},bp 0 d=true->Rel K H ι d v->Rel K H (Ix.none ι) d v
 | .non,v,_,h=>by simpa [Rel] using h
 | .bl _,v,_,h=>by simpa [Rel] using h
 | .int _,v,_,h=>by simpa [Rel] using h
 | .str _,v,_,h=>by simpa [Rel] using h
 | .tup xs,v,z,h=>by
  simp only [Rel] at h ⊢
  obtain⟨a,vs,e1,hq,hr⟩:=h
  refine⟨a,vs,e1,?_,ag.toN xs z hr⟩
  rcases hq with⟨hq,hn⟩ | hq
  . exact .inl ⟨hq,by simp [Ix.none]⟩
  . exact .inr hq
 | .lst xs,v,z,h=>by
  simp only [Rel] at h ⊢
  obtain⟨a,vs,e1,hq,hr⟩:=h
  refine⟨a,vs,e1,?_,ag.toN xs z hr⟩
  rcases hq with⟨hq,hn,hh⟩ | hq
  . exact .inl ⟨hq,by simp [Ix.none],fun m=>(List.mem_append.mp m).elim hn hh⟩
  . exact .inr hq
 | .edc,v,_,h=>by
  simp only [Rel] at h ⊢
  obtain⟨a,e1,hq,hr⟩:=h
  exact⟨a,e1,hq,by simp [Ix.none]⟩
 | .ref k,v,z,h=>by simp [bp] at z
 | .aI k,v,z,h=>by simp [bp] at z
 | .fn x,v,_,h=>by simpa [Rel] using h
theorem ag.toN {K H ι}:∀(ds:List D) {vs:List V},aT 0 ds=true->ag K H ι ds vs->ag K H (Ix.none ι) ds vs
 | [],vs,_,h=>by simpa [ag] using h
 | d::ds,vs,z,h=>by
  simp only [ag] at h ⊢
  simp only [aT,Bool.and_eq_true] at z
  obtain⟨v,vr,e1,hq,hr⟩:=h
  exact⟨v,vr,e1,Rel.toN d z.1 hq,ag.toN ds z.2 hr⟩
end
mutual
theorem Rel.sA {K H ι ι'}(hh:ι'.hd=ι.ix++ι.hd)(hl:∀a∈ι.ix,∃o,H a=some o/\xk o=false):∀(d:D) {v:V},bp 0 d=true->Rel K H ι' d v->Rel K H ι d v
 | .non,v,_,h=>by simpa [Rel] using h
 | .bl _,v,_,h=>by simpa [Rel] using h
 | .int _,v,_,h=>by simpa [Rel] using h
 | .str _,v,_,h=>by simpa [Rel] using h
 | .tup xs,v,z,h=>by
  simp only [Rel] at h ⊢
  obtain⟨a,vs,e1,hq,hr⟩:=h
  refine⟨a,vs,e1,?_,ag.sA hh hl xs z hr⟩
  rcases hq with⟨hq,hn⟩ | hq
  . refine .inl ⟨hq,fun m=>?_⟩
    obtain⟨us,e,f⟩:=hl a m
    rcases hq with hq | ⟨o,hq⟩<;>rw [e] at hq<;>cases hq<;>cases f
  . exact .inr hq
 | .lst xs,v,z,h=>by
  simp only [Rel] at h ⊢
  obtain⟨a,vs,e1,hq,hr⟩:=h
  refine⟨a,vs,e1,?_,ag.sA hh hl xs z hr⟩
  rcases hq with⟨hq,hn,hk⟩ | hq
  . rw [hh] at hk
    exact .inl ⟨hq,fun m=>hk (List.mem_append.mpr (.inl m)),fun m=>hk (List.mem_append.mpr (.inr m))⟩
  . exact .inr hq
 | .edc,v,_,h=>by
  simp only [Rel] at h ⊢
  obtain⟨a,e1,hq,hr⟩:=h
  refine⟨a,e1,hq,fun m=>?_⟩
  obtain⟨us,e,f⟩:=hl a m
  rw [e] at hq;cases hq;cases f
 | .ref k,v,z,h=>by simp [bp] at z
 | .aI k,v,z,h=>by simp [bp] at z
 | .fn x,v,_,h=>by simpa [Rel] using h
theorem ag.sA {K H ι ι'}(hh:ι'.hd=ι.ix++ι.hd)(hl:∀a∈ι.ix,∃o,H a=some o/\xk o=false):∀(ds:List D) {vs:List V},aT 0 ds=true->ag K H ι' ds vs->ag K H ι ds vs
 | [],vs,_,h=>by simpa [ag] using h
 | d::ds,vs,z,h=>by
  simp only [ag] at h ⊢
  simp only [aT,Bool.and_eq_true] at z
  obtain⟨v,vr,e1,hq,hr⟩:=h
  exact⟨v,vr,e1,Rel.sA hh hl d z.1 hq,ag.sA hh hl ds z.2 hr⟩
end
theorem ay.lst {K H ι g}(h:ay K H ι g){a:Addr}(ha:a∈ι.ix):∃o,H a=some o/\xk o=false:=by
 obtain⟨i,hi,e⟩:=List.mem_iff_getElem.mp ha
 have hg:i<g.length:=by rw [<- h.len];exact hi
 obtain⟨b,o,vs,hb,h1,ov,_⟩:=h.at_ i _ (List.getElem?_eq_getElem hg)
 rw [List.getElem?_eq_getElem hi,e] at hb
 cases hb
 generalize ι.kd i=kk at ov
 exact⟨o,h1,by cases ov<;>rfl⟩
def jY (fn:Fn):Fn:=fun ds g=>if aT 0 ds=true then(fn ds []).bind fun r=>if bp 0 r.1=true then some (r.1,g) else none else none
theorem kU {fn:Fn}{ds g d g'}(h:jY fn ds g=some (d,g')):aT 0 ds=true/\(∃gx,fn ds []=some (d,gx))/\bp 0 d=true/\g'=g:=by
 unfold jY at h
 split at h
 . rename_i z
   obtain⟨⟨d1,g1⟩,h1,h⟩:=bind_some h
   split at h
   . rename_i z2
     cases h
     exact⟨z,⟨g1,h1⟩,z2,rfl⟩
   . cases h
 . cases h
theorem Bj {P:Program}{K:KW}{base:Heap}{k n f fd ps}{fn:Fn}(F:cV P K.w K.fr K.mg base gC k f fd ps (jG K n fn)):cV P K.w K.fr K.mg base gC k f fd ps (jG K n (jY fn)) :=
 cV.imp F fun vs H Q E ⟨hl,ι,g,ds,d,g',G0,r,h,p⟩=>by
  obtain⟨z,⟨gx,hx⟩,z2,rfl⟩:=kU h
  refine⟨hl,Ix.none ι,[],ds,d,gx,⟨List.nodup_nil,rfl,fun b hb=>⟨by simp [Ix.none],?_⟩,fun i xs q=>by simp at q⟩,ag.toN ds z r,hx,fun H' ι' v e G1 rv=>?_⟩
  . rcases List.mem_append.mp hb with m | m
    . exact G0.nY m
    . exact(G0.hid b m).2
  . have same:∀a∈ι.ix,H' a=H a:=fun a ha=>by
      obtain⟨vs,ev,_⟩:=G0.lst ha
      rw [ev]
      exact e.same a _ ev (by simp [Ix.none])
    have e0:Ext H ι H' ι:=⟨fun a o q _=>e.same a o q (by simp [Ix.none]),e.there,⟨[],by simp,fun _ q=>by simp at q⟩,rfl,fun _ _=>rfl⟩
    refine p H' ι v e0 (G0.ext e0 same) (Rel.sA e.hid (fun a ha=>?_) d z2 rv)
    obtain⟨vs,ev,f⟩:=G0.lst ha
    exact⟨vs,by rw [same a ha];exact ev,f⟩
theorem tO {fn:Fn}{n:Nat}(h:∀ds g r,fn ds g=some r->ds.length=n):∀ds g r,jY fn ds g=some r->ds.length=n:=fun ds g r q=>by
 obtain⟨_,⟨gx,hx⟩,_⟩:=kU (d:=r.1) (g':=r.2) q
 exact h _ _ _ hx
end L3
namespace L3
open PySem L2
def wp {α:Type}(o:Option α)(Q:α->Prop):Prop:=∃a,o=some a/\Q a
section
variable {α β:Type}{o:Option α}{Q R:α->Prop}
@[simp] theorem iK {a:α}:wp (some a) Q=Q a:=by simp [wp]
@[simp] theorem Kz:wp (none:Option α) Q=False:=by simp [wp]
@[simp] theorem wp_bind {f:α->Option β}{Q:β->Prop}:wp (o.bind f) Q=wp o fun a=>wp (f a) Q:=by
 cases o<;>simp [wp]
@[simp] theorem wp_map {f:α->β}{Q:β->Prop}:wp (o.map f) Q=wp o fun a=>Q (f a):=by
 cases o<;>simp [wp]
theorem wp_mono (h:wp o R)(i:∀a,R a->Q a):wp o Q:=let⟨a,e,r⟩:=h;⟨a,e,i a r⟩
end
@[simp] theorem Ln {o:Option (D×G)}{Q:Bool×G->Prop}:wp (ju o) Q=wp o fun r=>∃b,r.1 = .bl b/\Q (b,r.2):=by
 cases o with
 | none=>simp [ju]
 | some r =>
  obtain⟨d,g⟩:=r
  cases d with
  | bl b=>cases b<;>simp [ju]
  | _=>simp [ju]
section
variable {σ:Sg}{g:G}{fa:FE}{fl fh:FO}
@[simp] theorem Ju {xs ys:List D}:aM (.tup xs) (.tup ys) g=if aF (xs.length+ys.length)=true then some (.tup (xs++ys),g) else none:=rfl
@[simp] theorem HF {xs ys:List D}:aM (.lst xs) (.lst ys) g=if aF (xs.length+ys.length)=true then some (.lst (xs++ys),g) else none:=rfl
@[simp] theorem JO {x y:Str}:aM (.str x) (.str y) g=if aF (x.length+y.length)=true then some (.str (x++y),g) else none:=rfl
@[simp] theorem Ke:cP σ g=some (none,g):=rfl
@[simp] theorem HS:cf fa σ g=(fa σ g).bind fun r=>match r.1 with | .int i=>some (some i,r.2) | _=>none:=rfl
theorem t_ {xs:List D}{k:Int}(h1:k<=1000)(h0:-1000<=k)(h2:xs.length<=1000):bM (.tup xs) (.int k) g=some (.tup (List.replicate k.toNat xs).flatten,g):=by
 show(if(fF k&&aF (xs.length*k.toNat))=true then some (D.tup (List.replicate k.toNat xs).flatten,g) else none)=_
 rw [if_pos]
 have hk:k.toNat<=1000:=by omega
 have:xs.length*k.toNat<=1000*1000:=Nat.mul_le_mul h2 hk
 rw [fF.of (by omega) (by omega),GC (by omega)]
 rfl
theorem u6 {n a:Nat}(h:a<=n):HT.bq n n (some (a:Int))=a:=by rw [HT.sG];omega
theorem oX {n a:Nat}(h:a<=n):HT.bq n 0 (some (a:Int))=a:=by rw [HT.sG];omega
theorem mv {xs:List D}{a:Nat}(h:a<xs.length):lY (.tup xs) none (some (a:Int)) g=some (.tup (xs.take a),g):=by
 have hw:eL xs.length none (some (a:Int))=false:=by
  unfold eL
  rw [u6 (Nat.le_of_lt h)]
  simp;omega
 simp only [lY,hw,Bool.false_eq_true,if_false]
 unfold cutD
 rw [u6 (Nat.le_of_lt h),HT.qy]
 simp
theorem iQ {xs:List D}{a:Nat}(h:a<xs.length):lY (.tup xs) (some ((a:Int)+1)) none g=some (.tup (xs.drop (a+1)),g):=by
 have e:(a:Int)+1=((a+1:Nat):Int):=by simp
 rw [e]
 have hw:eL xs.length (some ((a+1:Nat):Int)) none=false:=by
  unfold eL
  rw [oX h]
  simp
 simp only [lY,hw,Bool.false_eq_true,if_false]
 unfold cutD
 rw [oX h,HT.qy,List.take_of_length_le (by simp)]
end
theorem iM {t:FG}{b:FS}{Q:F×Sg×G->Prop}(I:Nat->Sg->G->Prop):∀(ds:List D) (i:Nat) (σ:Sg) (g:G),I i σ g ->
  (∀(j:Nat) (d:D) σ g,ds[j]? = some d->I (i+j) σ g->wp (t d σ g) fun q=>wp (b q.1 q.2) fun r=>match r.1 with
   | .nx=>I (i+j+1) r.2.1 r.2.2
   | .ct=>I (i+j+1) r.2.1 r.2.2
   | .bk=>Q (.nx,r.2.1,r.2.2)
   | .rt d=>Q (.rt d,r.2.1,r.2.2))->(∀σ g,I (i+ds.length) σ g->Q (.nx,σ,g))->wp (forL t b ds σ g) Q
 | [],i,σ,g,hi,_,he=>by simp only [forL,iK];exact he σ g hi
 | d::ds,i,σ,g,hi,hs,he=>by
  simp only [forL,wp_bind]
  refine wp_mono (hs 0 d σ g rfl hi) fun q hq=>wp_mono hq fun r hr=>?_
  have go:I (i+0+1) r.2.1 r.2.2->wp (forL t b ds r.2.1 r.2.2) Q:=fun z =>
   iM I ds (i+1) _ _ z (fun j d σ g e h=>by
    have q:=hs (j+1) d σ g (by simpa using e) (by rw [show i+(j+1)=i+1+j by omega];exact h)
    rw [show i+(j+1)+1=i+1+j+1 by omega] at q
    exact q) fun σ g h=>he σ g (by rw [List.length_cons,show i+(ds.length+1)=i+1+ds.length by omega];exact h)
  obtain⟨r1,r2⟩:=r
  cases r1 with
  | nx=>exact go hr
  | ct=>exact go hr
  | bk=>simp only [iK];exact hr
  | rt d=>simp only [iK];exact hr
theorem fL {nN nP:Nat}{b:FS}{ds:List D}{g:G}{Q:D×G->Prop}(hl:ds.length=nP)(h:wp (b (ds.map some++List.replicate (nN-nP) none) g) fun r=>match r.1 with
  | .rt d=>bp g.length d=true/\(r.2.2.take g.length).all (aT g.length)=true/\g.length<=r.2.2.length/\Q (d,r.2.2.take g.length)
  | .nx=>(r.2.2.take g.length).all (aT g.length)=true/\g.length<=r.2.2.length/\Q (.non,r.2.2.take g.length)
  | _=>False):wp (aJ false nN nP b ds g) Q:=by
 obtain⟨⟨r,σ,g'⟩,e,q⟩:=h
 unfold aJ
 rw [if_pos hl,e]
 have fin:∀d,bp g.length d=true->(g'.take g.length).all (aT g.length)=true->g.length<=g'.length->Q (d,g'.take g.length)->wp (settle g.length d g') Q:=fun d z1 z2 z3 z4=>by
  by_cases hg:g'.length=g.length
  . rw [List.take_of_length_le (by omega)] at z4
    exact⟨_,by unfold settle;rw [if_pos hg],z4⟩
  . refine⟨_,?_,z4⟩
    unfold settle
    rw [if_neg hg,if_pos z2]
    cases d with
    | ref k =>
     have z:k<g.length:=by simpa [bp] using z1
     simp only [if_pos z]
    | _=>simp only [if_pos z1]
 cases r with
 | rt d =>
  obtain⟨q1,q2,q3,q4⟩:=q
  exact fin d q1 q2 q3 q4
 | nx =>
  obtain⟨q2,q3,q4⟩:=q
  exact fin .non rfl q2 q3 q4
 | bk=>exact q.elim
 | ct=>exact q.elim
end L3
namespace L3
open PySem PySem.Spec PyProof.Rows L2
open SeqAt
def dW:D->Bool
 | .non=>true
 | .bl _=>true
 | .int _=>true
 | .str _=>true
 | _=>false
def toV:D->V
 | .bl b=>.bl b
 | .int i=>.int i
 | .str x=>.str x
 | _=>.non
theorem kg {K H ι d v}(h:dW d=true)(r:Rel K H ι d v):v=toV d/\gF v=true:=by
 cases d with
 | non=>simp only [Rel] at r;subst r;exact⟨rfl,rfl⟩
 | bl _=>simp only [Rel] at r;subst r;exact⟨rfl,rfl⟩
 | int _=>simp only [Rel] at r;subst r;exact⟨rfl,rfl⟩
 | str _=>simp only [Rel] at r;subst r;exact⟨rfl,rfl⟩
 | _=>cases h
theorem nk {K H ι d}(h:dW d=true):Rel K H ι d (toV d):=by
 cases d with
 | non=>simp [Rel,toV]
 | bl _=>simp [Rel,toV]
 | int _=>simp [Rel,toV]
 | str _=>simp [Rel,toV]
 | _=>cases h
theorem lC {K H ι}:∀{xs:List D} {vs:List V},xs.all dW=true->ag K H ι xs vs->vs=xs.map toV/\vs.all gF=true
 | [],vs,_,r=>by simp only [ag] at r;subst r;exact⟨rfl,rfl⟩
 | d::xs,vs,h,r=>by
  simp only [ag] at r
  obtain⟨v,vr,rfl,r1,r2⟩:=r
  rw [List.all_cons,Bool.and_eq_true] at h
  obtain⟨e1,f1⟩:=kg h.1 r1
  obtain⟨e2,f2⟩:=lC h.2 r2
  subst e1 e2
  exact⟨rfl,by rw [List.all_cons,f1,f2];rfl⟩
theorem p4 {K H ι}:∀{xs:List D},xs.all dW=true->ag K H ι xs (xs.map toV)
 | [],_=>by simp [ag]
 | d::xs,h=>by
  rw [List.all_cons,Bool.and_eq_true] at h
  simp only [List.map_cons,ag]
  exact⟨_,_,rfl,nk h.1,p4 h.2⟩
theorem FY {a b:D}(ha:dW a=true)(hb:dW b=true):nL (toV a) (toV b)=aB a b:=by
 cases a<;>cases b<;>first | (simp [toV,nL,aB];done) | (simp [dW] at ha;done) | (simp [dW] at hb;done)
def Jy (K:KW)(d:D)(v:V):Prop:=(dW d=true/\v=toV d) \/
 ∃xs a o its n,d = .tup xs/\xs.all dW=true/\v = .ref a/\K.fr.lookup a=some o/\o.cls = .type "tuple" /\ o.dict=none/\o.data = .seq its n/\its.size<=sizeLine/\Vals (xs.map toV) its.toList
def zO (w:World)(K:KW):List DictEntry->List (Str×D)->Prop
 | [],tbl=>tbl = []
 | e::es,tbl=>∃x d rest,tbl=(x,d)::rest/\(∃t,e.key = .str x t)/\e.hash=hashStr w x/\(∃v,RelV v e.val/\Jy K d v)/\zO w K es rest
structure oG (w:World)(K:KW)(a:Addr)(tbl:List (Str×D)):Prop where
 ex:∃o es ep,K.fr.lookup a=some o/\o.ExactDict/\o.data = .dict es ep/\zO w K es.toList tbl
 sys:(a == sysModules)=false
section
variable {X:Cx}{a:Addr}{tbl:List (Str×D)}
def lE (xs:List D)(d:D):Option Nat:=xs.findIdx? fun y=>aB y d
end
end L3
namespace L3
open PySem PySem.Spec PyProof.Rows L2
def Hq:List Str->List V->List (Value×Value)->Prop
 | [],xs,vs=>xs = []/\vs = []
 | k::ks,xs,vs=>∃x xr t u vr,xs=x::xr/\vs=(.str k t,u)::vr/\RelV x u/\Hq ks xr vr
structure LB (X:Cx)(keys:List (Option Expr))(vals:List Expr)(pos:Pos)(ks:List Str)(fr:FA):Prop where
 all:keys.all (·.isSome)=true
 len:keys.length=vals.length
 len2:keys.length=ks.length
 un:∀(pins:List (Addr×Obj)) (s:Shared) (σ:L2.St) (H:Hp) (Q:List V->Hp->Prop),Inv X pins σ H s->f_ X.kw fr σ H Q ->
  wpAny (model X.prog X.w) X.A (evalPairs (pairTrees keys vals X.env pos)) (fun vs s1=>∃xs H1,Inv X pins σ H1 s1/\Hq ks xs vs/\Q xs H1) X.xe s
section
variable {X:Cx}
def lr (i j:Nat)(fr:FA):FS:=fun σ g=>(fr σ g).bind fun r=>match r.1 with
 | [a,b]=>some (.nx,(σ.set i (some a)).set j (some b),r.2)
 | _=>none
theorem CY {i j:Nat}{x y:Str}{a b:Expr}{fr:FA}{px py pt pos:Pos}{kt k2 gW}(hc:X.calm=true)(hN:X.N.Nodup)(hi:X.N[i]? = some x)(hj:X.N[j]? = some y)(hij:i≠j)
  (hx:X.env.scope.names.lookup x=some .local) (hy:X.env.scope.names.lookup y=some .local) (ha:DA X [a,b] fr)
  (hw:swappedStores [.Tuple [.Name x px,.Name y py] kt pt] (.Tuple [a,b] k2 gW) X.env=pure (some [x,y]))
  (hs:swapsWithSole [.Tuple [.Name x px,.Name y py] kt pt] (.Tuple [a,b] k2 gW) pos.line X.env=pure false:=by rfl) :
  DS X (.Assign [.Tuple [.Name x px,.Name y py] kt pt] (.Tuple [a,b] k2 gW) pos) (lr i j fr):=.of (
 PS.imp (Fb hc hN hi hj hij hx hy ha.un hw hs) fun Dn σ H h=>by
  obtain⟨ι,σd,g,r,σd',g',G0,S0,h,p⟩:=h
  obtain⟨⟨ds,g1⟩,h1,h⟩:=bind_some h
  refine f_.bind G0 S0 h1 fun H1 ι1 vs e1 G1 S1 r1=>?_
  dsimp only at h
  split at h
  . rename_i a b
    cases h
    simp only [ag] at r1
    obtain⟨v,vr,rfl,ra,u,ur,rfl,rb,rfl⟩:=r1
    exact⟨v,u,rfl,p H1 ι1 e1 G1 _ ((S1.set ra i).set rb j)⟩
  . cases h)
end
theorem ou {prog:Program}{w:World}{A:Around}{E:Value->Shared->Prop}{s:Shared}{it a:Addr}{i:Nat}{items:Array Value}{x:Value}{Q:Value->Shared->Prop}(hit:s.heap.IsTupleIter it a i)(hl:s.heap.IsTuple a items)(hx:items[i]? = some x)
  (hQ:∀h',h'.IsTupleIter it a (i+1)->Heap.SameBut it s.heap h'->Q x { s with heap:=h' }):wpAny (model prog w) A (Builtin.SmallTypes.nextOf (.ref it)) Q E s:=by
 obtain⟨o,jo,jc,jd⟩:=id hit
 obtain⟨tb0,tb1,_,tb3,tb2⟩:=hl
 unfold Builtin.SmallTypes.nextOf
 refine wpAny_bind (wpAny_callSpecial?_slot (name:=Str.ofString "__next__") hit.typeIs F.slot_tuple_iterator_next (wpAny_call_entry F.slot_tuple_iterator_next hit.typeIs F.entry_tuple_iterator_next ?_ (F.args_tuple_iterator_next_1 _)))
 change wpAny _ _ (field (.ref it) 0 >>= fun _=>_) _ _ _
 refine wpAny_bind (wpAny_field jo jd (x:=.ref a) rfl ?_)
 change wpAny _ _ (if(Value.ref a == Value.none)=true then _ else _) _ _ _
 rw [if_neg (by exact Bool.false_ne_true)]
 change wpAny _ _ (field (.ref it) 1 >>= fun _=>_) _ _ _
 refine wpAny_bind (wpAny_field jo jd (x:=.int i 0) rfl ?_)
 change wpAny _ _ (seqItems? (.ref a) >>= fun _=>_) _ _ _
 refine wpAny_bind (wpAny_seqItems tb1 tb2 ?_)
 simp only [Int.toNat_natCast,hx]
 refine wpAny_bind (wpAny_setField jo jd (by simp) ?_)
 refine wpAny_pure ⟨x,rfl,wpAny_pure (hQ _ ⟨_,Heap.get?_update_self _ jo (Obj.isFreed_of_fields (Obj.data_mapFields jd _)),(Obj.cls_mapFields ..).trans jc,?_⟩ (Heap.SameBut.update ..))⟩
 rw [Obj.data_mapFields jd]
 simp [rawInt]
theorem jT {prog:Program}{w:World}{A:Around}{E:Value->Shared->Prop}{s:Shared}{it a:Addr}{i:Nat}{items:Array Value}{Q:Value->Shared->Prop}(hh:A.handled=none)(hit:s.heap.IsTupleIter it a i)(hl:s.heap.IsTuple a items)(hx:items[i]? = none)
  (hE:∀h' e,Heap.ExtBut it s.heap h'->(∃o,h'.get? e=some o/\o.cls = .type "StopIteration")->E (.ref e) { s with heap:=h' }):wpAny (model prog w) A (Builtin.SmallTypes.nextOf (.ref it)) Q E s:=by
 obtain⟨o,jo,jc,jd⟩:=id hit
 obtain⟨tb0,tb1,_,tb3,tb2⟩:=hl
 unfold Builtin.SmallTypes.nextOf
 refine wpAny_bind (wpAny_callSpecial?_slot (name:=Str.ofString "__next__") hit.typeIs F.slot_tuple_iterator_next (wpAny_call_entry F.slot_tuple_iterator_next hit.typeIs F.entry_tuple_iterator_next ?_ (F.args_tuple_iterator_next_1 _)))
 change wpAny _ _ (field (.ref it) 0 >>= fun _=>_) _ _ _
 refine wpAny_bind (wpAny_field jo jd (x:=.ref a) rfl ?_)
 change wpAny _ _ (if(Value.ref a == Value.none)=true then _ else _) _ _ _
 rw [if_neg (by exact Bool.false_ne_true)]
 change wpAny _ _ (field (.ref it) 1 >>= fun _=>_) _ _ _
 refine wpAny_bind (wpAny_field jo jd (x:=.int i 0) rfl ?_)
 change wpAny _ _ (seqItems? (.ref a) >>= fun _=>_) _ _ _
 refine wpAny_bind (wpAny_seqItems tb1 tb2 ?_)
 simp only [Int.toNat_natCast,hx]
 refine wpAny_bind (wpAny_rule (wpAny_bind (wpAny_setField jo jd (by simp) ?_)))
 change wpAny _ _ (newExc (.type "StopIteration") [] >>= fun _=>_) _ _ _
 refine wpAny_bind ?_
 simp only [newExc,newTuple]
 refine wpAny_bind (wpAny_newObj_type ?_ (by size_fits))
 refine wpAny_bind (m:=firstArgMember _ _) (wpAny_of_eq (a:=Value.none) (by first | rfl | (simp only [firstArgMember];rfl)) ?_)
 refine wpAny_newObj_type ?_ (by size_fits)
 simp only [raiseNew]
 refine wpAny_bind (wpAny_handled ?_)
 rw [show A.in1.handled=none from hh]
 exact wpAny_bind (wpAny_pure (wpAny_throw (hE _ _ (((Heap.SameBut.update ..).extBut.push _).push _) ⟨_,Heap.get?_push_size _ rfl,rfl⟩)))
theorem vW {prog:Program}{w:World}{A:Around}(hh:A.handled=none)(it a:Addr)(hne:a≠it)(items:Array Value) :
  Draws prog w A it [it,a] items.size (fun i v=>items[i]? = some v) (fun i h=>h.IsTupleIter it a i/\h.IsTuple a items) where
 live:=fun _ _ st=>let⟨o,ho,_⟩:=st.1;⟨o,ho⟩
 frame:=fun _ _ _ st hk=>⟨st.1.at fun o e=>hk it (by simp) o e,let⟨o,ho,r⟩:=st.2;⟨o,hk a (by simp) o ho,r⟩⟩
 item:=fun i s Q E hi st hQ=>ou st.1 st.2 (x:=items[i]) (by simp [hi]) fun h' hit' hs'=>hQ _ h' s.toks (by simp [hi]) ⟨hit',st.2.extBut hs'.extBut hne⟩ hs'
 done:=fun s Q E st hE=>jT hh st.1 st.2 (by simp) hE
theorem wd {prog:Program}{w:World}{A:Around}(hh:A.handled=none)(it a:Addr)(items:Array Value)(n:Nat)(hn:items.size<=n) :
  Draws prog w A it [it,a] n (fun _ _=>True) (fun j h=>j=n/\h.IsTupleIter it a n/\h.IsTuple a items) where
 live:=fun _ _ st=>let⟨o,ho,_⟩:=st.2.1;⟨o,ho⟩
 frame:=fun _ _ _ st hk=>⟨st.1,st.2.1.at fun o e=>hk it (by simp) o e,let⟨o,ho,r⟩:=st.2.2;⟨o,hk a (by simp) o ho,r⟩⟩
 item:=fun i s Q E hi st hQ=>absurd st.1 (Nat.ne_of_lt hi)
 done:=fun s Q E st hE=>jT hh st.2.1 st.2.2 (by simp;exact hn) hE
theorem vN (a:Addr)(items:Array Value)(n:Nat)(aI:Option Addr)(sl:Array (Option Value)) :
  Meets (Builtin.«enumerate.__new__» ⟨[.type "enumerate",.ref a],[]⟩) (fun _ R s=>s.heap.get? a=some { cls:=.type "tuple",dict:=aI,data:=.seq items n,slots:=sl } /\
    R (.ok (.ret (.ref (s.heap.push { cls:=.type "tuple_iterator",data:=.fields #[.ref a,.int 0 0] }).objs.size)))
     { s with heap:=(s.heap.push { cls:=.type "tuple_iterator",data:=.fields #[.ref a,.int 0 0] }).push { cls:=.type "enumerate",data:=.fields #[.none,.bool false,.ref s.heap.objs.size,rawInt 0,.none,.none] } }) :=
 .of_wp fun prog w A R s h=>by
  obtain⟨hp,g,d,tk,os⟩:=s
  obtain⟨ht,h⟩:=h
  have sub:=sub_enumerate
  have tup:Heap.IsTuple (Shared.heap ⟨hp,g,d,tk,os⟩) a items:=⟨_,ht,rfl,n,rfl⟩
  wp_walk using wpAny_loadPart' ht
  refine wpAny_stack_any fun st=>wpAny_pure ?_
  split
  . rename_i c _ _ _ _ _
    cases (c == Value.type "enumerate")<;>(wp_walk using wpAny_loadPart' ht,wpAny_pyIter_tuple tup;exact⟨_,rfl,h⟩)
  . wp_walk using wpAny_loadPart' ht,wpAny_pyIter_tuple tup
    exact⟨_,rfl,h⟩
theorem tN {prog:Program}{w:World}{A:Around}{E:Value->Shared->Prop}{s:Shared}{a:Addr}{items:Array Value}{Q:Value->Shared->Prop}(ht:s.heap.IsTuple a items)
  (h:∀h',IsEnum h' (s.heap.objs.size+1) s.heap.objs.size 0 .none->h'.IsTupleIter s.heap.objs.size a 0->(∀b o,s.heap.get? b=some o->h'.get? b=some o)->Q (.ref (s.heap.objs.size+1)) { s with heap:=h' }) :
  wpAny (model prog w) A (call (.type "enumerate") [.ref a]) Q E s:=by
 obtain⟨⟨c,aI,dt,sl⟩,e1,e2,n,e3⟩:=ht
 cases (show c = .type "tuple" from e2)
 cases (show dt = .seq items n from e3)
 refine callType_new F.called_enumerate (by decide) (F.typeCall_enumerate_1 _) (F.newCall_enumerate_1 _) (fun obj=>F.args_object_init_2 obj _) F.entry_enumerate_new (vN a items n aI sl) ⟨e1,?_⟩
 have sz:(s.heap.push { cls:=.type "tuple_iterator",data:=.fields #[.ref a,.int 0 0] }).objs.size=s.heap.objs.size+1:=Heap.size_push ..
 have en:=Heap.get?_push_size (s.heap.push { cls:=.type "tuple_iterator",data:=.fields #[.ref a,.int 0 0] }) (o:={ cls:=.type "enumerate",data:=.fields #[.none,.bool false,.ref s.heap.objs.size,rawInt 0,.none,.none] }) rfl
 rw [sz] at en
 show _/\_
 rw [sz]
 exact⟨⟨_,en,rfl⟩,h _ en ⟨_,Heap.get?_push_of_some _ (Heap.get?_push_size _ rfl),rfl,rfl⟩ fun b o x=>Heap.get?_push_of_some _ (Heap.get?_push_of_some _ x)⟩
theorem sR {X:Cx}{pins:List (Addr×Obj)}{σ:L2.St}{H:Hp}{s:Shared}{h':Heap}{t':Nat}{ch:List Addr}(I:L2.Inv X pins σ H s)(k:∀b o,b ∉ ch->s.heap.get? b=some o->h'.get? b=some o)(hf:∀b∈ch,cM X pins H b) :
   L2.Inv X pins σ H { s with heap:=h',toks:=t' }:=by
 have nit:∀b u,H b=some u->b ∉ ch:=fun b u e z=>by rw [(hf b z).1] at e;cases e
 refine I.step (g':=s.gens) (d':=s.drawn) (ch:=ch) (fun b hb=>?_) (fun b o _ _ hc e _=>k b o hc e) (fun b o _ _ hc e _=>⟨o.slots,k b o hc e⟩) (fun _ _ _ _ n=>n)
   (fun b o hc e=>⟨o,k b o hc e⟩) (fun _ _ e=>e) (fun _ _ _ e=>e) (fun b ps e=>⟨#[],by rw [e];simp⟩) (fun m hm=>?_) (fun b u e=>?_) I.bare
 . obtain⟨f0,f1,f2,f3,f4,f5⟩:=hf b hb
   exact⟨f3,f1,f4,f5⟩
 . obtain⟨o,es,ep,ho,r⟩:=hm
   exact⟨o,es,ep,k _ o (fun z=>(hf _ z).2.1 rfl) ho,r⟩
 . refine(I.hok b u e).ly (fun c v hc q=>k c v ?_ q) (fun _ q=>q) fun _ _ q=>q
   rcases hc with z | z
   . rw [z];exact nit b u e
   . exact nit c _ z
def BS (K:PySem.W.Frag)(a:Addr):It :=
 ⟨fun i H=>∃xs x,dh K H a xs/\xs[i]? = some x,fun i H x H'=>∃T v,x = .ref T/\H T=none/\H'=upd H T (.tup [.int i,v]) /\ ∀xs,dh K H a xs->xs[i]? = some v,fun i H=>∃xs,dh K H a xs/\xs.length<=i⟩
theorem ug {P:Program}{w:World}{K:PySem.W.Frag}{elts:List Expr}{kt:Nat}{tp:Pos}(a e it:Addr)(hei:e≠it):Turn P w K (.Tuple elts kt tp) (BS K a) [e,it] e (fun i h=>(∃old,IsEnum h e it i old)/\h.IsTupleIter it a i) where
 mem:=by simp
 obj:=fun i h st b hb=>by
  obtain⟨⟨old,h1⟩,o,h2,h3,h4⟩:=st
  rcases List.mem_cons.mp hb with rfl | hb
  . exact⟨_,h1,fun v z=>by cases z⟩
  . have hb':b=it:=by simpa using hb
    subst hb'
    exact⟨o,h2,fun v z=>by rw [h4] at z;cases z⟩
 keep:=fun i h h' st k=>by
  obtain⟨⟨old,h1⟩,h2⟩:=st
  exact⟨⟨old,k e (by simp) _ h1⟩,h2.at fun o q=>k it (by simp) o q⟩
 item:=by
  intro X hP hw hK hc i pins s σ H E I hf st hg
  subst hP hw hK
  obtain⟨⟨old,h1⟩,h2⟩:=st
  obtain⟨xs,x,hq,hx⟩:=hg
  obtain⟨its,rv,p,hz⟩:=I.tuple hq
  obtain⟨u,hu,ru⟩:=rv.get hx
  have ai:a≠it:=fun z=>by
    obtain⟨o,q1,q2,_⟩:=p
    obtain⟨o',q3,q4,_⟩:=h2
    rw [z,q3] at q1
    cases q1
    rw [q4] at q2
    exact absurd q2 (by decide)
  have ae:e≠a:=fun z=>by
    obtain⟨o,q1,q2,_⟩:=p
    rw [<- z,h1] at q1
    cases q1
    exact absurd (show Value.type "enumerate" = Value.type "tuple" from q2) (by decide)
  have hi:i<its.toArray.size:=by
    have:=(List.getElem?_eq_some_iff.mp hu).1
    simpa using this
  refine wpAny_pyNext_enum_itemD (vW (A:=X.A.in1) (I.ok.hd hc) it a ai its.toArray) h1 ⟨h2,p⟩ hi hei (by simp [hei,ae]) fun x' h' tk hP hout hst hT hsz hk=>?_
  have ex:x'=u:=by
    have q:its.toArray[i]? = some x':=hP
    have q':its[i]? = some x':=by simpa using q
    rw [hu] at q'
    exact(Option.some.inj q').symm
  subst ex
  refine⟨_,rfl,wpAny_letOwnedTupleGo_enum hout fun h'' hen hs''=>?_⟩
  have I1:L2.Inv X pins σ (upd H s.heap.objs.size (.tup [.int i,x])) { s with heap:=s.heap.push { cls:=.type "tuple",data:=.seq #[.int i tk,x'] } } :=
    I.laid (t':=s.toks) (o:=.tup [.int i,x]) (fun b o q=>Heap.get?_push_of_some _ q) (Nat.le_refl _) (show cz X.prog X.w _ _ _ (.tup [.int i,x]) from⟨by show 2<=sizeLine;decide,[.int i tk,x'],.cons ⟨tk,rfl⟩ (.cons ru .nil),dG.new _ _⟩)
  have eT:e≠s.heap.objs.size:=Nat.ne_of_lt (Heap.lt_size h1)
  have iT:it≠s.heap.objs.size:=by
    obtain⟨o',q3,_⟩:=h2
    exact Nat.ne_of_lt (Heap.lt_size q3)
  have I2:L2.Inv X pins σ (upd H s.heap.objs.size (.tup [.int i,x])) { s with heap:=h'',toks:=tk+1 }:=sR (s:={ s with heap:=s.heap.push { cls:=.type "tuple",data:=.seq #[.int i tk,x'] } }) (ch:=[e,it]) I1 (fun b o hb q=>by
    simp only [List.mem_cons,List.mem_nil_iff,or_false,not_or] at hb
    have h3:h'.get? b=some o:=by
      by_cases hbT:b=s.heap.objs.size
      . subst hbT
        have:(s.heap.push { cls:=.type "tuple",data:=.seq #[.int i tk,x'] }).get? s.heap.objs.size=some o:=q
        rw [Heap.get?_push_size _ rfl] at this
        rw [<- this];exact hT
      . exact hk b o hb.1 hb.2 ((Heap.get?_push_ne s.heap b _ hbT).symm.trans q)
    exact(hs''.2 b hb.1).trans h3) (fun b hb=>by
      obtain⟨f0,f1,f2,f3,f4,f5⟩:=hf b hb
      refine⟨?_,f1,f2,f3,f4,f5⟩
      rcases List.mem_cons.mp hb with rfl | hb
      . rw [aN eT];exact f0
      . have hb':b=it:=by simpa using hb
        subst hb'
        rw [aN iT];exact f0)
  refine⟨.ref s.heap.objs.size,_,I2,rfl,⟨_,x,rfl,I.fresh,rfl,fun ys hy=>by rw [I.jS hy hq];exact hx⟩,⟨⟨_,by simpa using hen⟩,?_⟩,fun b hb=>?_⟩
  . exact hst.1.at fun o q=>(hs''.2 it (Ne.symm hei)).trans q
  . rcases List.mem_cons.mp hb with rfl | hb
    . rw [aN eT];exact(hf _ (by simp)).1
    . have hb':b=it:=by simpa using hb
      subst hb'
      rw [aN iT];exact(hf _ (by simp)).1
 done:=by
  intro X hP hw hK hc i pins s σ H E I hf st hg
  subst hP hw hK
  obtain⟨⟨old,h1⟩,h2⟩:=st
  obtain⟨xs,hq,hx⟩:=hg
  obtain⟨its,rv,p,hz⟩:=I.tuple hq
  have ai:a≠it:=fun z=>by
    obtain⟨o,q1,q2,_⟩:=p
    obtain⟨o',q3,q4,_⟩:=h2
    rw [z,q3] at q1
    cases q1
    rw [q4] at q2
    exact absurd q2 (by decide)
  have f:=hf it (by simp)
  have fin:∀h',Heap.ExtBut it s.heap h'->L2.Inv X pins σ H { s with heap:=h' }:=fun h' eb=>I.turned (t':=s.toks) (fun b o hb q=>eb b o hb q) f.1 f.2.1 f.2.2.2.1 f.2.2.2.2.1 f.2.2.2.2.2
  have hl:=rv.length
  exact wpAny_pyNext_enum_endD (wd (A:=X.A.in1) (I.ok.hd hc) it a its.toArray i (by simp;omega)) h1 ⟨rfl,h2,p⟩ fun h' eb=>⟨rfl,fin h' eb⟩
 self:=fun _ _ _ _ _ st h=>wpAny_pyIter_enum st.1.choose_spec h
theorem uq {prog:Program}{w:World}{A:Around}(hh:A.handled=none)(it a:Addr)(items:Array Value)(n:Nat)(hn:items.size<=n) :
  Draws prog w A it [it,a] n (fun _ _=>True) (fun j h=>j=n/\h.IsListIter it a n/\h.IsList a items) where
 live:=fun _ _ st=>let⟨o,ho,_⟩:=st.2.1;⟨o,ho⟩
 frame:=fun _ _ _ st hk=>⟨st.1,st.2.1.at fun o e=>hk it (by simp) o e,st.2.2.at fun o e=>hk a (by simp) o e⟩
 item:=fun i s Q E hi st hQ=>absurd st.1 (Nat.ne_of_lt hi)
 done:=fun s Q E st hE=>wpAny_nextOf_list_end hh st.2.1 st.2.2 (by simp;exact hn) hE
def BL (K:PySem.W.Frag)(a:Addr):It :=
 ⟨fun i H=>∃xs x,cD K H a xs/\xs[i]? = some x,fun i H x H'=>∃T v,x = .ref T/\H T=none/\H'=upd H T (.tup [.int i,v]) /\ ∀xs,cD K H a xs->xs[i]? = some v,fun i H=>∃xs,cD K H a xs/\xs.length<=i⟩
theorem tI {P:Program}{w:World}{K:PySem.W.Frag}{elts:List Expr}{kt:Nat}{tp:Pos}(a e it:Addr)(hei:e≠it):Turn P w K (.Tuple elts kt tp) (BL K a) [e,it] e (fun i h=>(∃old,IsEnum h e it i old)/\h.IsListIter it a i) where
 mem:=by simp
 obj:=fun i h st b hb=>by
  obtain⟨⟨old,h1⟩,o,h2,h3,h4⟩:=st
  rcases List.mem_cons.mp hb with rfl | hb
  . exact⟨_,h1,fun v z=>by cases z⟩
  . have hb':b=it:=by simpa using hb
    subst hb'
    exact⟨o,h2,fun v z=>by rw [h4] at z;cases z⟩
 keep:=fun i h h' st k=>by
  obtain⟨⟨old,h1⟩,h2⟩:=st
  exact⟨⟨old,k e (by simp) _ h1⟩,h2.at fun o q=>k it (by simp) o q⟩
 item:=by
  intro X hP hw hK hc i pins s σ H E I hf st hg
  subst hP hw hK
  obtain⟨⟨old,h1⟩,h2⟩:=st
  obtain⟨xs,x,hq,hx⟩:=hg
  obtain⟨its,rv,p,hz⟩:=I.list hq
  obtain⟨u,hu,ru⟩:=rv.get hx
  have ai:a≠it:=fun z=>by
    obtain⟨o,q1,q2,_⟩:=p.isList
    obtain⟨o',q3,q4,_⟩:=h2
    rw [z,q3] at q1
    cases q1
    rw [q4] at q2
    exact absurd q2 (by decide)
  have ae:e≠a:=fun z=>by
    obtain⟨o,q1,q2,_⟩:=p.isList
    rw [<- z,h1] at q1
    cases q1
    exact absurd (show Value.type "enumerate" = Value.type "list" from q2) (by decide)
  have hi:i<its.toArray.size:=by
    have:=(List.getElem?_eq_some_iff.mp hu).1
    simpa using this
  refine wpAny_pyNext_enum_itemD (Draws.list (A:=X.A.in1) (I.ok.hd hc) it a ai its.toArray) h1 ⟨h2,p.isList⟩ hi hei (by simp [hei,ae]) fun x' h' tk hP hout hst hT hsz hk=>?_
  have ex:x'=u:=by
    have q:its.toArray[i]? = some x':=hP
    have q':its[i]? = some x':=by simpa using q
    rw [hu] at q'
    exact(Option.some.inj q').symm
  subst ex
  refine⟨_,rfl,wpAny_letOwnedTupleGo_enum hout fun h'' hen hs''=>?_⟩
  have I1:L2.Inv X pins σ (upd H s.heap.objs.size (.tup [.int i,x])) { s with heap:=s.heap.push { cls:=.type "tuple",data:=.seq #[.int i tk,x'] } } :=
    I.laid (t':=s.toks) (o:=.tup [.int i,x]) (fun b o q=>Heap.get?_push_of_some _ q) (Nat.le_refl _) (show cz X.prog X.w _ _ _ (.tup [.int i,x]) from⟨by show 2<=sizeLine;decide,[.int i tk,x'],.cons ⟨tk,rfl⟩ (.cons ru .nil),dG.new _ _⟩)
  have eT:e≠s.heap.objs.size:=Nat.ne_of_lt (Heap.lt_size h1)
  have iT:it≠s.heap.objs.size:=by
    obtain⟨o',q3,_⟩:=h2
    exact Nat.ne_of_lt (Heap.lt_size q3)
  have I2:L2.Inv X pins σ (upd H s.heap.objs.size (.tup [.int i,x])) { s with heap:=h'',toks:=tk+1 }:=sR (s:={ s with heap:=s.heap.push { cls:=.type "tuple",data:=.seq #[.int i tk,x'] } }) (ch:=[e,it]) I1 (fun b o hb q=>by
    simp only [List.mem_cons,List.mem_nil_iff,or_false,not_or] at hb
    have h3:h'.get? b=some o:=by
      by_cases hbT:b=s.heap.objs.size
      . subst hbT
        have:(s.heap.push { cls:=.type "tuple",data:=.seq #[.int i tk,x'] }).get? s.heap.objs.size=some o:=q
        rw [Heap.get?_push_size _ rfl] at this
        rw [<- this];exact hT
      . exact hk b o hb.1 hb.2 ((Heap.get?_push_ne s.heap b _ hbT).symm.trans q)
    exact(hs''.2 b hb.1).trans h3) (fun b hb=>by
      obtain⟨f0,f1,f2,f3,f4,f5⟩:=hf b hb
      refine⟨?_,f1,f2,f3,f4,f5⟩
      rcases List.mem_cons.mp hb with rfl | hb
      . rw [aN eT];exact f0
      . have hb':b=it:=by simpa using hb
        subst hb'
        rw [aN iT];exact f0)
  refine⟨.ref s.heap.objs.size,_,I2,rfl,⟨_,x,rfl,I.fresh,rfl,fun ys hy=>by rw [I.lq hy hq];exact hx⟩,⟨⟨_,by simpa using hen⟩,?_⟩,fun b hb=>?_⟩
  . exact hst.1.at fun o q=>(hs''.2 it (Ne.symm hei)).trans q
  . rcases List.mem_cons.mp hb with rfl | hb
    . rw [aN eT];exact(hf _ (by simp)).1
    . have hb':b=it:=by simpa using hb
      subst hb'
      rw [aN iT];exact(hf _ (by simp)).1
 done:=by
  intro X hP hw hK hc i pins s σ H E I hf st hg
  subst hP hw hK
  obtain⟨⟨old,h1⟩,h2⟩:=st
  obtain⟨xs,hq,hx⟩:=hg
  obtain⟨its,rv,p,hz⟩:=I.list hq
  have ai:a≠it:=fun z=>by
    obtain⟨o,q1,q2,_⟩:=p.isList
    obtain⟨o',q3,q4,_⟩:=h2
    rw [z,q3] at q1
    cases q1
    rw [q4] at q2
    exact absurd q2 (by decide)
  have f:=hf it (by simp)
  have fin:∀h',Heap.ExtBut it s.heap h'->L2.Inv X pins σ H { s with heap:=h' }:=fun h' eb=>I.turned (t':=s.toks) (fun b o hb q=>eb b o hb q) f.1 f.2.1 f.2.2.2.1 f.2.2.2.2.1 f.2.2.2.2.2
  have hl:=rv.length
  exact wpAny_pyNext_enum_endD (uq (A:=X.A.in1) (I.ok.hd hc) it a its.toArray i (by simp;omega)) h1 ⟨rfl,h2,p.isList⟩ fun h' eb=>⟨rfl,fin h' eb⟩
 self:=fun _ _ _ _ _ st h=>wpAny_pyIter_enum st.1.choose_spec h
def b5 (xs:List D):List D:=xs.zipIdx.map fun p=>.tup [.int (p.2:Nat),p.1]
def uQ (f:FE):FI:=fun σ g=>(f σ g).bind fun r=>match r.1 with | .tup xs=>some (b5 xs,r.2) | _=>none
theorem fK.F2 {K H ι a vs ds}(hq:ip K H ι a vs)(hr:ag K H ι ds vs):fK K (BS K a) H ι (b5 ds):=fun i H1 ι1 g1 e1 G1 =>
 ⟨fun hl=>⟨vs,(hq.dm e1).sq,by rw [<- hr.length];simpa [b5] using hl⟩,fun d hd=>by
  unfold b5 at hd
  rw [List.getElem?_map,List.getElem?_zipIdx] at hd
  cases hx:ds[i]? with
  | none=>rw [hx] at hd;cases hd
  | some d0 =>
   rw [hx] at hd
   simp only [Option.map_some,Option.some.injEq,Nat.zero_add] at hd
   subst hd
   obtain⟨v,hv,rv⟩:=(ag.dm e1 _ hr).get hx
   refine⟨⟨vs,v,(hq.dm e1).sq,hv⟩,fun x H2 y=>?_⟩
   obtain⟨T,v',rfl,hn,rfl,hy⟩:=y
   have:=hy vs (hq.dm e1).sq
   rw [hv] at this
   cases this
   refine⟨Ext.lay hn,G1.lay hn,?_⟩
   simp only [Rel]
   refine⟨T,_,rfl,.inl ⟨.inl aX,G1.fresh hn⟩,?_⟩
   simp only [ag,Rel]
   exact⟨_,_,rfl,rfl,_,_,rfl,Rel.ext (Ext.lay hn) _ rv,rfl⟩⟩
theorem x4 {X:Cx}{l:Expr}{fe:FE}{p pos tp:Pos}{elts:List Expr}{kt:Nat}(hg:Gl X "enumerate")(hm:X.mg "enumerate" = none)(hl:DE X l fe)
  (hs:starEach [l] X.env = [(false,eval l X.env)]:=by rfl):DI X (.Tuple elts kt tp) (.Call (.Name "enumerate" p) [l] [] pos) (uQ fe):=.of (by
 intro pins s σ H R I h
 obtain⟨ι,σd,g,ds,g',G0,S0,h,q⟩:=h
 obtain⟨⟨d1,g1⟩,h1,h⟩:=bind_some h
 cases d1 with
 | tup xs =>
  cases h
  refine Call_ (eY I hg hm PyProof.Rows.boot_enumerate (PyProof.Rows.callWith_type1 (aU ((iP hl.un lQ hs) pos pins s σ H (fun vs H1=>∃v ι1,vs = [v]/\Ext H ι H1 ι1/\ay X.kw H1 ι1 g1/\Rel X.kw H1 ι1 (.tup xs) v) I ?_) fun us s1 ⟨vs,H1,I1,r1,v,ι1,e0,e1,G1,rd⟩=>?_) hs rfl))
  . exact⟨ι,σd,g,_,g1,G0,S0,h1,fun H1 ι1 v e1 G1 r1=>⟨v,ι1,rfl,e1,G1,r1⟩⟩
  . subst e0
    obtain⟨u,rfl,ru⟩:=vals1 r1
    simp only [Rel] at rd
    obtain⟨a,vs,rfl,hq,hr⟩:=rd
    cases ru
    obtain⟨its,rv,pt,hz⟩:=I1.tuple hq.sq
    refine tN (show s1.heap.IsTuple a its.toArray from pt) fun h' hen hti hk=>?_
    refine wpAny_pyIter_enum hen ?_
    have hne:s1.heap.objs.size+1≠s1.heap.objs.size:=Nat.succ_ne_self _
    refine⟨s1.heap.objs.size+1,[s1.heap.objs.size+1,s1.heap.objs.size],_,_,H1,rfl,I1.kept (t':=s1.toks) hk,ug a _ _ hne,⟨⟨_,hen⟩,hti⟩,fun b hb=>?_,q H1 ι1 _ e1 G1 (.F2 hq hr)⟩
    rcases List.mem_cons.mp hb with rfl | hb
    . exact I1.gv (Nat.le_succ _) (I1.hok.fresh (Nat.le_succ _))
    . have hb':b=s1.heap.objs.size:=by simpa using hb
      subst hb'
      exact I1.gv (Nat.le_refl _) (I1.hok.fresh (Nat.le_refl _))
 | _=>cases h)
def vK (f:FE):FI:=fun σ g=>(f σ g).bind fun r=>match r.1 with | .lst xs=>some (b5 xs,r.2) | _=>none
theorem fK.Ga {K H ι a vs ds}(hq:hU K H ι a vs)(hr:ag K H ι ds vs):fK K (BL K a) H ι (b5 ds):=fun i H1 ι1 g1 e1 G1 =>
 ⟨fun hl=>⟨vs,(hq.dm e1).sq,by rw [<- hr.length];simpa [b5] using hl⟩,fun d hd=>by
  unfold b5 at hd
  rw [List.getElem?_map,List.getElem?_zipIdx] at hd
  cases hx:ds[i]? with
  | none=>rw [hx] at hd;cases hd
  | some d0 =>
   rw [hx] at hd
   simp only [Option.map_some,Option.some.injEq,Nat.zero_add] at hd
   subst hd
   obtain⟨v,hv,rv⟩:=(ag.dm e1 _ hr).get hx
   refine⟨⟨vs,v,(hq.dm e1).sq,hv⟩,fun x H2 y=>?_⟩
   obtain⟨T,v',rfl,hn,rfl,hy⟩:=y
   have:=hy vs (hq.dm e1).sq
   rw [hv] at this
   cases this
   refine⟨Ext.lay hn,G1.lay hn,?_⟩
   simp only [Rel]
   refine⟨T,_,rfl,.inl ⟨.inl aX,G1.fresh hn⟩,?_⟩
   simp only [ag,Rel]
   exact⟨_,_,rfl,rfl,_,_,rfl,Rel.ext (Ext.lay hn) _ rv,rfl⟩⟩
theorem yP {X:Cx}{l:Expr}{fe:FE}{p pos tp:Pos}{elts:List Expr}{kt:Nat}(hg:Gl X "enumerate")(hm:X.mg "enumerate" = none)(hl:DE X l fe)
  (hs:starEach [l] X.env = [(false,eval l X.env)]:=by rfl):DI X (.Tuple elts kt tp) (.Call (.Name "enumerate" p) [l] [] pos) (vK fe):=.of (by
 intro pins s σ H R I h
 obtain⟨ι,σd,g,ds,g',G0,S0,h,q⟩:=h
 obtain⟨⟨d1,g1⟩,h1,h⟩:=bind_some h
 cases d1 with
 | lst xs =>
  cases h
  refine Call_ (eY I hg hm PyProof.Rows.boot_enumerate (PyProof.Rows.callWith_type1 (aU ((iP hl.un lQ hs) pos pins s σ H (fun vs H1=>∃v ι1,vs = [v]/\Ext H ι H1 ι1/\ay X.kw H1 ι1 g1/\Rel X.kw H1 ι1 (.lst xs) v) I ?_) fun us s1 ⟨vs,H1,I1,r1,v,ι1,e0,e1,G1,rd⟩=>?_) hs rfl))
  . exact⟨ι,σd,g,_,g1,G0,S0,h1,fun H1 ι1 v e1 G1 r1=>⟨v,ι1,rfl,e1,G1,r1⟩⟩
  . subst e0
    obtain⟨u,rfl,ru⟩:=vals1 r1
    simp only [Rel] at rd
    obtain⟨a,vs,rfl,hq,hr⟩:=rd
    cases ru
    obtain⟨its,rv,pt,hz⟩:=I1.list hq.sq
    refine call_enumerate_list pt.isList fun h' hen hti _ hk=>?_
    refine wpAny_pyIter_enum hen ?_
    have hne:s1.heap.objs.size+1≠s1.heap.objs.size:=Nat.succ_ne_self _
    refine⟨s1.heap.objs.size+1,[s1.heap.objs.size+1,s1.heap.objs.size],_,_,H1,rfl,I1.kept (t':=s1.toks) hk,tI a _ _ hne,⟨⟨_,hen⟩,hti⟩,fun b hb=>?_,q H1 ι1 _ e1 G1 (.Ga hq hr)⟩
    rcases List.mem_cons.mp hb with rfl | hb
    . exact I1.gv (Nat.le_succ _) (I1.hok.fresh (Nat.le_succ _))
    . have hb':b=s1.heap.objs.size:=by simpa using hb
      subst hb'
      exact I1.gv (Nat.le_refl _) (I1.hok.fresh (Nat.le_refl _))
 | _=>cases h)
def cY (f:FE):FI:=fun σ g=>(f σ g).bind fun r=>match r.1 with | .tup xs=>some (b5 xs,r.2) | .lst xs=>some (b5 xs,r.2) | _=>none
theorem Bm {X:Cx}{l:Expr}{fe:FE}{p pos tp:Pos}{elts:List Expr}{kt:Nat}(hg:Gl X "enumerate")(hm:X.mg "enumerate" = none)(hl:DE X l fe)
  (hs:starEach [l] X.env = [(false,eval l X.env)]:=by rfl):DI X (.Tuple elts kt tp) (.Call (.Name "enumerate" p) [l] [] pos) (cY fe):=.of (by
 intro pins s σ H R I h
 obtain⟨ι,σd,g,ds,g',G0,S0,h,q⟩:=h
 obtain⟨⟨d1,g1⟩,h1,h2⟩:=bind_some h
 cases d1 with
 | tup xs=>exact(x4 hg hm hl hs).un pins s σ H R I ⟨ι,σd,g,ds,g',G0,S0,by unfold uQ;rw [h1];exact h2,q⟩
 | lst xs=>exact(yP hg hm hl hs).un pins s σ H R I ⟨ι,σd,g,ds,g',G0,S0,by unfold vK;rw [h1];exact h2,q⟩
 | _=>cases h2)
@[simp] theorem JN {fa:FE}{σ:Sg}{g:G}:cY fa σ g=(fa σ g).bind fun r=>match r.1 with | .tup xs=>some (b5 xs,r.2) | .lst xs=>some (b5 xs,r.2) | _=>none:=rfl
section
variable {σ:Sg}{g:G}{fa fb fo fx:FE}{fr:FA}
@[simp] theorem J4 {i j:Nat}:lr i j fr σ g=(fr σ g).bind fun r=>match r.1 with
 | [a,b]=>some (.nx,(σ.set i (some a)).set j (some b),r.2)
 | _=>none:=rfl
end
section
variable {σ:Sg}{g:G}{fa fb:FE}
@[simp] theorem F0:iA .non g=some false:=rfl
@[simp] theorem F5 {xs:List D}:iA (.tup xs) g=some (!xs.isEmpty):=rfl
@[simp] theorem FJ {xs:List D}:iA (.lst xs) g=some (!xs.isEmpty):=rfl
end
structure ZA (z ti tu j1 j2 a1 a2:Addr):Prop where
 n1:ti≠z
 n2:tu≠z
 n3:j1≠z
 n4:j2≠z
 n5:ti≠tu
 n6:tu≠j1
 n7:tu≠j2
 n8:j1≠j2
 n9:ti≠j1
 n10:ti≠j2
 m1:a1≠z/\a1≠tu/\a1≠j1/\a1≠j2
 m2:a2≠z/\a2≠tu/\a2≠j1/\a2≠j2
def ly (cs:List Addr)(h h':Heap):Prop:=∀c o,c ∉ cs->h.get? c=some o->h'.get? c=some o
section
variable {X:Cx}
section
open SeqAt
variable {pins:List (Addr×Obj)}{σ:L2.St}{H:Hp}{s:Shared}{ι:Ix}
theorem wC (I:Inv X pins σ H s):∀(d1 d2:D) {A:Around} {x y:V} {u v:Value},flat d1=true->flat d2=true->Rel X.kw H ι d1 x->Rel X.kw H ι d2 y->RelV x u->RelV y v->A.units+dep d1<cLine->RcNeAt A s u v (!aB d1 d2)
 | .non,d2,A,x,y,u,v,_,f2,r1,r2,ru,rv,hu=>by
  simp only [Rel] at r1;subst r1;cases ru
  cases d2 with
  | non=>simp only [Rel] at r2;subst r2;cases rv;simp only [aB,Bool.not_true,Bool.not_false];exact .none_none
  | bl b=>simp only [Rel] at r2;subst r2;cases rv;simp only [aB,Bool.not_true,Bool.not_false];exact .none_bool b
  | int b=>simp only [Rel] at r2;subst r2;obtain⟨t,rfl⟩:=rv;simp only [aB,Bool.not_true,Bool.not_false];exact .none_int b t
  | str b=>simp only [Rel] at r2;subst r2;obtain⟨t,rfl⟩:=rv;simp only [aB,Bool.not_true,Bool.not_false];exact .none_str b t
  | tup ys=>simp only [Rel] at r2;obtain⟨a',ws,rfl,hq,hr⟩:=r2;cases rv;obtain⟨its,_,ht,_⟩:=I.tuple hq.sq;simp only [aB,Bool.not_true,Bool.not_false];exact .none_tuple ht (by omega)
  | lst ys=>simp only [Rel] at r2;obtain⟨a',ws,rfl,hq,hr⟩:=r2;cases rv;obtain⟨its,_,ht,_⟩:=I.list hq.sq;simp only [aB,Bool.not_true,Bool.not_false];exact .none_list ht.isList (by omega)
  | _=>cases f2
 | .bl a,d2,A,x,y,u,v,_,f2,r1,r2,ru,rv,hu=>by
  simp only [Rel] at r1;subst r1;cases ru
  cases d2 with
  | non=>simp only [Rel] at r2;subst r2;cases rv;simp only [aB,Bool.not_true,Bool.not_false];exact .bool_none a
  | bl b=>simp only [Rel] at r2;subst r2;cases rv;simp only [aB,Bool.not_true,Bool.not_false];exact .bool_bool a b
  | int b=>simp only [Rel] at r2;subst r2;obtain⟨t,rfl⟩:=rv;simp only [aB,Bool.not_true,Bool.not_false];exact .bool_int a b t
  | str b=>simp only [Rel] at r2;subst r2;obtain⟨t,rfl⟩:=rv;simp only [aB,Bool.not_true,Bool.not_false];exact .bool_str a b t
  | tup ys=>simp only [Rel] at r2;obtain⟨a',ws,rfl,hq,hr⟩:=r2;cases rv;obtain⟨its,_,ht,_⟩:=I.tuple hq.sq;simp only [aB,Bool.not_true,Bool.not_false];exact .bool_tuple a ht (by omega)
  | lst ys=>simp only [Rel] at r2;obtain⟨a',ws,rfl,hq,hr⟩:=r2;cases rv;obtain⟨its,_,ht,_⟩:=I.list hq.sq;simp only [aB,Bool.not_true,Bool.not_false];exact .bool_list a ht.isList (by omega)
  | _=>cases f2
 | .int a,d2,A,x,y,u,v,_,f2,r1,r2,ru,rv,hu=>by
  simp only [Rel] at r1;subst r1;obtain⟨t0,rfl⟩:=ru
  cases d2 with
  | non=>simp only [Rel] at r2;subst r2;cases rv;simp only [aB,Bool.not_true,Bool.not_false];exact .int_none a t0
  | bl b=>simp only [Rel] at r2;subst r2;cases rv;simp only [aB,Bool.not_true,Bool.not_false];exact .int_bool a t0 b
  | int b=>simp only [Rel] at r2;subst r2;obtain⟨t,rfl⟩:=rv;simp only [aB,Bool.not_true,Bool.not_false];exact .int_int a t0 b t
  | str b=>simp only [Rel] at r2;subst r2;obtain⟨t,rfl⟩:=rv;simp only [aB,Bool.not_true,Bool.not_false];exact .int_str a t0 b t
  | tup ys=>simp only [Rel] at r2;obtain⟨a',ws,rfl,hq,hr⟩:=r2;cases rv;obtain⟨its,_,ht,_⟩:=I.tuple hq.sq;simp only [aB,Bool.not_true,Bool.not_false];exact .int_tuple a t0 ht (by omega)
  | lst ys=>simp only [Rel] at r2;obtain⟨a',ws,rfl,hq,hr⟩:=r2;cases rv;obtain⟨its,_,ht,_⟩:=I.list hq.sq;simp only [aB,Bool.not_true,Bool.not_false];exact .int_list a t0 ht.isList (by omega)
  | _=>cases f2
 | .str a,d2,A,x,y,u,v,_,f2,r1,r2,ru,rv,hu=>by
  simp only [Rel] at r1;subst r1;obtain⟨t0,rfl⟩:=ru
  cases d2 with
  | non=>simp only [Rel] at r2;subst r2;cases rv;simp only [aB,Bool.not_true,Bool.not_false];exact .str_none a t0
  | bl b=>simp only [Rel] at r2;subst r2;cases rv;simp only [aB,Bool.not_true,Bool.not_false];exact .str_bool a t0 b
  | int b=>simp only [Rel] at r2;subst r2;obtain⟨t,rfl⟩:=rv;simp only [aB,Bool.not_true,Bool.not_false];exact .str_int a t0 b t
  | str b=>simp only [Rel] at r2;subst r2;obtain⟨t,rfl⟩:=rv;simp only [aB,Bool.not_true,Bool.not_false];exact .str_str a t0 b t
  | tup ys=>simp only [Rel] at r2;obtain⟨a',ws,rfl,hq,hr⟩:=r2;cases rv;obtain⟨its,_,ht,_⟩:=I.tuple hq.sq;simp only [aB,Bool.not_true,Bool.not_false];exact .str_tuple a t0 ht (by omega)
  | lst ys=>simp only [Rel] at r2;obtain⟨a',ws,rfl,hq,hr⟩:=r2;cases rv;obtain⟨its,_,ht,_⟩:=I.list hq.sq;simp only [aB,Bool.not_true,Bool.not_false];exact .str_list a t0 ht.isList (by omega)
  | _=>cases f2
 | .tup xs,d2,A,x,y,u,v,f1,f2,r1,r2,ru,rv,hu=>by
  simp only [Rel] at r1;obtain⟨a,vs,rfl,hq,hr⟩:=r1;cases ru
  obtain⟨its,rits,ht,_⟩:=I.tuple hq.sq
  simp only [dep] at hu
  cases d2 with
  | non=>simp only [Rel] at r2;subst r2;cases rv;simp only [aB,Bool.not_true,Bool.not_false];exact .tuple_none ht (by omega)
  | bl b=>simp only [Rel] at r2;subst r2;cases rv;simp only [aB,Bool.not_true,Bool.not_false];exact .tuple_bool b ht (by omega)
  | int b=>simp only [Rel] at r2;subst r2;obtain⟨t,rfl⟩:=rv;simp only [aB,Bool.not_true,Bool.not_false];exact .tuple_int b t ht (by omega)
  | str b=>simp only [Rel] at r2;subst r2;obtain⟨t,rfl⟩:=rv;simp only [aB,Bool.not_true,Bool.not_false];exact .tuple_str b t ht (by omega)
  | tup ys =>
   simp only [Rel] at r2;obtain⟨a',ws,rfl,hq',hr'⟩:=r2;cases rv
   obtain⟨its',rits',ht',_⟩:=I.tuple hq'.sq
   simp only [aB,gZ]
   have l1:xs.length=its.toArray.size:=by rw [List.size_toArray,<- rits.length];exact hr.length
   have l2:ys.length=its'.toArray.size:=by rw [List.size_toArray,<- rits'.length];exact hr'.length
   rw [l1,l2]
   refine .tuples ht ht' (by omega) fun j h1 h2=>?_
   have:=iJ I xs ys (A:=A.in1) f1 f2 hr hr' rits rits' (by rw [in1_units];omega) j (by simpa using h1) (by simpa using h2)
   simpa using this
  | lst ys =>
   simp only [Rel] at r2;obtain⟨a',ws,rfl,hq',hr'⟩:=r2;cases rv
   obtain⟨its',rits',ht',_⟩:=I.list hq'.sq
   simp only [aB,Bool.not_true,Bool.not_false];exact .tuple_list ht ht'.isList (by omega)
  | _=>cases f2
 | .lst xs,d2,A,x,y,u,v,f1,f2,r1,r2,ru,rv,hu=>by
  simp only [Rel] at r1;obtain⟨a,vs,rfl,hq,hr⟩:=r1;cases ru
  obtain⟨its,rits,ht,_⟩:=I.list hq.sq
  simp only [dep] at hu
  cases d2 with
  | non=>simp only [Rel] at r2;subst r2;cases rv;simp only [aB,Bool.not_true,Bool.not_false];exact .list_none ht.isList (by omega)
  | bl b=>simp only [Rel] at r2;subst r2;cases rv;simp only [aB,Bool.not_true,Bool.not_false];exact .list_bool b ht.isList (by omega)
  | int b=>simp only [Rel] at r2;subst r2;obtain⟨t,rfl⟩:=rv;simp only [aB,Bool.not_true,Bool.not_false];exact .list_int b t ht.isList (by omega)
  | str b=>simp only [Rel] at r2;subst r2;obtain⟨t,rfl⟩:=rv;simp only [aB,Bool.not_true,Bool.not_false];exact .list_str b t ht.isList (by omega)
  | lst ys =>
   simp only [Rel] at r2;obtain⟨a',ws,rfl,hq',hr'⟩:=r2;cases rv
   obtain⟨its',rits',ht',_⟩:=I.list hq'.sq
   simp only [aB,gZ]
   have l1:xs.length=its.toArray.size:=by rw [List.size_toArray,<- rits.length];exact hr.length
   have l2:ys.length=its'.toArray.size:=by rw [List.size_toArray,<- rits'.length];exact hr'.length
   rw [l1,l2]
   by_cases hs:its.toArray.size=its'.toArray.size
   . have e0:(its.toArray.size == its'.toArray.size)=true:=by simpa using hs
     rw [e0,Bool.and_true,<- hs,Nat.min_self]
     refine .lists ht.isList ht'.isList hs (by omega) fun j h1 h2=>?_
     have:=iJ I xs ys (A:=A.in1) f1 f2 hr hr' rits rits' (by rw [in1_units];omega) j (by simpa using h1) (by simpa using h2)
     simpa using this
   . have e0:(its.toArray.size == its'.toArray.size)=false:=by simpa using hs
     rw [e0,Bool.and_false,Bool.not_false]
     exact .lists_lengths ht.isList ht'.isList (by simpa using hs) (by omega)
  | tup ys =>
   simp only [Rel] at r2;obtain⟨a',ws,rfl,hq',hr'⟩:=r2;cases rv
   obtain⟨its',rits',ht',_⟩:=I.tuple hq'.sq
   simp only [aB,Bool.not_true,Bool.not_false];exact .list_tuple ht.isList ht' (by omega)
  | _=>cases f2
 | .edc,d2,A,x,y,u,v,f1,_,_,_,_,_,_=>by cases f1
 | .ref _,d2,A,x,y,u,v,f1,_,_,_,_,_,_=>by cases f1
 | .aI _,d2,A,x,y,u,v,f1,_,_,_,_,_,_=>by cases f1
 | .fn _,d2,A,x,y,u,v,f1,_,_,_,_,_,_=>by cases f1
end
def ff (d1 d2:D)(g:G):Option (D×G):=if(flat d1&&flat d2&&decide (dep d1<=60))=true then some (.bl (!aB d1 d2),g) else none
theorem D_ (hu:X.A.units+64<cLine):bw X (compareOp .NotEq) (cA X.kw ff):=by
 intro pins s σ H x y v u Q I rx ry q
 obtain⟨ι,g,d1,d2,d,g',G0,r1,r2,q,p⟩:=q
 unfold ff at q
 split at q
 . rename_i z
   simp only [Bool.and_eq_true,decide_eq_true_eq] at z
   cases q
   exact wC I d1 d2 z.1.1 z.1.2 r1 r2 rx ry (by omega) _ _ _ _ ⟨.bl _,H,I,rfl,p H ι _ Ext.refl G0 (by simp [Rel])⟩
 . cases q
end
@[simp] theorem JV {d1 d2:D}{g:G}:ff d1 d2 g=if(flat d1&&flat d2&&decide (dep d1<=60))=true then some (.bl (!aB d1 d2),g) else none:=rfl
def dk:List D->Option (List Int)
 | []=>some []
 | .int i::ds=>(dk ds).map (i :: ·)
 | _=>none
theorem uG {d:D}{ds:List D}{ns:List Int}(h:dk (d::ds)=some ns):∃i ms,d = .int i/\ns=i::ms/\dk ds=some ms:=by
 cases d with
 | int i =>
  simp only [dk,Option.map_eq_some_iff] at h
  obtain⟨ms,h1,rfl⟩:=h
  exact⟨i,ms,rfl,rfl,h1⟩
 | _=>simp [dk] at h
theorem gi {K H ι}:∀{xs:List D} {vs:List V} {us:List Value} {ns:List Int},dk xs=some ns->ag K H ι xs vs->Vals vs us->IntsAre us ns
 | [],vs,us,ns,h,r,rv=>by simp only [ag] at r;subst r;cases rv;cases h;exact .nil
 | d::ds,vs,us,ns,h,r,rv=>by
  obtain⟨i,ms,rfl,rfl,h1⟩:=uG h
  simp only [ag,Rel] at r
  obtain⟨v,vr,rfl,rfl,hr⟩:=r
  cases rv with
  | cons r0 rr =>
   obtain⟨t,rfl⟩:=r0
   exact .cons i t (gi h1 hr rr)
theorem jg:∀{us:List Value} {ns:List Int},IntsAre us ns->∃xs:List (Int×Tok),us=xs.map (fun p=>Value.int p.1 p.2)/\ns=xs.map (·.1)
 | _,_,.nil=>⟨[],rfl,rfl⟩
 | _,_,.cons n t h=>by
  obtain⟨xs,rfl,rfl⟩:=jg h
  exact⟨(n,t)::xs,rfl,rfl⟩
section
variable {X:Cx}
def tR (ds:List D)(g:G):Option (D×G):=match ds with | [d]=>(dP d g).bind fun xs=>(dk xs).map fun ns=>(.int ns.sum,g) | _=>none
theorem C8 (hh:X.A.handled=none):b7 X (.builtin "sum") (fI X.kw tR):=by
 intro pins s σ H xs us Q I r q
 obtain⟨ι,g,ds,d,g',G0,r1,q,p⟩:=q
 cases ds with
 | nil=>cases q
 | cons e dsr =>
 cases dsr with
 | cons _ _=>cases q
 | nil =>
  simp only [tR] at q
  obtain⟨ys,hx,q⟩:=bind_some q
  obtain⟨ns,hn,q⟩:=Option.map_eq_some_iff.mp q
  cases q
  simp only [ag] at r1
  obtain⟨v,_,rfl,rv,rfl⟩:=r1
  obtain⟨a,vs,rfl,hq,hr⟩:=fQ G0 rv hx
  cases r with
  | cons ru rr =>
   cases rr
   cases ru
   obtain⟨its,rits,ht,_⟩:=I.list hq
   obtain⟨ps,rfl,rfl⟩:=jg (gi hn hr rits)
   have hi:(ps.map (fun p=>Value.int p.1 p.2)).toArray=intItems ps.toArray:=by simp [intItems]
   have hl:=ht.isList
   rw [hi] at hl
   refine sum_intListG hh hl fun h' tk t' hk=>?_
   rw [preSum_eq,List.take_of_length_le (by simp)]
   exact⟨.int _,H,I.kept hk,⟨_,rfl⟩,p H ι _ Ext.refl G0 (by simp [Rel])⟩
theorem fZ:∀{us:List Value} {ns:List Int},IntsAre us ns->Vals (ns.map V.int) us
 | _,_,.nil=>.nil
 | _,_,.cons n t h=>.cons ⟨t,rfl⟩ (fZ h)
theorem lN {K:KW}{H:Hp}{ι:Ix}:∀ns:List Int,ag K H ι (ns.map D.int) (ns.map V.int)
 | []=>by simp [ag]
 | n::ns=>by
  simp only [List.map_cons,ag]
  exact⟨_,_,rfl,by simp [Rel],lN ns⟩
end
section
variable {σ:Sg}{g:G}{fr:FA}
@[simp] theorem Kt {d:D}:tR [d] g=(dP d g).bind fun xs=>(dk xs).map fun ns=>(.int ns.sum,g):=rfl
end
theorem rB {prog:Program}{w:World}{A:Around}{E:Value->Shared->Prop}{s:Shared}{l:Addr}{xs:Array (Int×Tok)}{Q:Value->Shared->Prop}(hh:A.handled=none)(hl:s.heap.IsTuple l (intItems xs))
   (h:∀h' tk t',(∀b o,s.heap.get? b=some o->h'.get? b=some o)->Q (.int (preSum (numAt xs) xs.size) t') { s with heap:=h',toks:=tk }) :
   wpAny (model prog w) A (call (.builtin "sum") [.ref l]) Q E s:=by
 have hlt:l<s.heap.objs.size:=by obtain⟨_,e,_⟩:=hl;exact Heap.lt_size e
 have hne:l≠s.heap.objs.size:=Nat.ne_of_lt hlt
 refine call_sum_walkG (wpAny_pyIter_tuple hl ?_)
 refine⟨_,[s.heap.objs.size,l],[s.heap.objs.size],_,_,_,numAt xs,rfl,Walks.tuple (A:=A.in1) hh _ l hne (intItems xs),⟨⟨_,Heap.get?_push_size _ rfl,rfl,rfl⟩,hl.push _⟩,fun b hb=>?_,(fun _ _=>intItems_at),fun h' tk t' hk=>?_⟩
 . show b<(s.heap.push _).objs.size
   rw [Heap.size_push]
   rcases List.mem_cons.mp hb with rfl | hb
   . exact Nat.lt_succ_self _
   . rcases List.mem_cons.mp hb with rfl | hb
     . exact Nat.lt_succ_of_lt hlt
     . cases hb
 . have:=h h' tk t' fun b o e=>by
     refine hk b o (fun hm=>?_) (Heap.get?_push_of_some _ e)
     rcases List.mem_cons.mp hm with e1 | hm
     . exact absurd (e1 ▸ Heap.lt_size e) (Nat.lt_irrefl _)
     . cases hm
   simpa [intItems] using this
section
variable {X:Cx}
def i7 (ds:List D)(g:G):Option (D×G):=match ds with
 | [.tup xs]=>(dk xs).map fun ns=>(.int ns.sum,g)
 | ds=>tR ds g
theorem BG (hh:X.A.handled=none):b7 X (.builtin "sum") (fI X.kw i7):=by
 intro pins s σ H xs us Q I r q
 obtain⟨ι,g,ds,d,g',G0,r1,q,p⟩:=q
 unfold i7 at q
 split at q
 . rename_i ys
   obtain⟨ns,hn,q⟩:=Option.map_eq_some_iff.mp q
   cases q
   simp only [ag,Rel] at r1
   obtain⟨v,_,rfl,⟨a,vs,rfl,hq,hr⟩,rfl⟩:=r1
   cases r with
   | cons ru rr =>
    cases rr
    cases ru
    obtain⟨its,rits,ht,_⟩:=I.tuple hq.sq
    obtain⟨ps,rfl,rfl⟩:=jg (gi hn hr rits)
    have hi:(ps.map (fun p=>Value.int p.1 p.2)).toArray=intItems ps.toArray:=by simp [intItems]
    rw [hi] at ht
    refine rB hh ht fun h' tk t' hk=>?_
    rw [preSum_eq,List.take_of_length_le (by simp)]
    exact⟨.int _,H,I.kept hk,⟨_,rfl⟩,p H ι _ Ext.refl G0 (by simp [Rel])⟩
 . exact C8 hh pins s σ H xs us Q I r ⟨ι,g,_,d,g',G0,r1,q,p⟩
end
@[simp] theorem GH {xs:List D}{g:G}:i7 [.tup xs] g=(dk xs).map fun ns=>(.int ns.sum,g):=rfl
@[simp] theorem Gx {xs:List D}{g:G}:i7 [.lst xs] g=(dk xs).map fun ns=>(.int ns.sum,g):=rfl
end L3
namespace L3
open PySem PySem.Spec PyProof.Rows L2 HT
section
variable {prog:Program}{w:World}{A:Around}{E:Value->Shared->Prop}{s:Shared}
theorem jx {t sl:Addr}{items:Array Value}{vl vu:Value}{lo hi:Option Int}{Q:Value->Shared->Prop}(ht:IsTup s.heap t items)(hs:s.heap.IsSliceOf sl vl vu .none)(pl:IsPart vl lo)(pu:IsPart vu hi)
  (hw:bq items.size 0 lo=0/\bq items.size items.size hi=items.size)
  (h:Q (.ref t) s):wpAny (model prog w) A (getItem (.ref t) (.ref sl)) Q E s:=by
 obtain⟨os,hos,hcs,hds⟩:=id hs
 have hTs:s.TypeIs (.ref sl) "slice":=⟨os,hos,hcs⟩
 unfold getItem
 try with_reducible refine wpAny_holding ?_
 first | refine wpAny_bind (wpAny_pure ?_) | skip
 refine wpAny_bind (wpAny_sequenceKey ht.typeIs (by decide) ?_)
 refine wpAny_bind (wpAny_callSpecial?_slot (name:=Str.ofString "__getitem__") ht.typeIs PyProof.Rows.slot_tuple_getitem
  (wpAny_call_entry PyProof.Rows.slot_tuple_getitem ht.typeIs entry_tuple_getitem ?_ (args_tuple_getitem _ _)))
 show wpAny _ _ (Builtin.Tuple.tupleItemsOf (.ref t) >>= _) _ _ s
 refine wpAny_bind (tupleItemsOf_ ht ?_)
 refine wpAny_bind (wpAny_typeOf hTs ?_)
 rw [if_pos (by decide)]
 refine wpAny_bind (g0 hs pl pu ?_)
 have hyes:((((bq items.size 0 lo:Nat):Int) == 0&&(1:Int) == 1&&(bq items.size items.size hi-bq items.size 0 lo) == items.size)=true):=by
  rw [hw.1,hw.2];simp
 show wpAny _ _ (if(((bq items.size 0 lo:Nat):Int) == 0&&(1:Int) == 1&&(bq items.size items.size hi-bq items.size 0 lo) == items.size)=true then _ else _) _ _ s
 rw [if_pos hyes]
 unfold Builtin.Tuple.tupleIsExact
 refine wpAny_bind (wpAny_bind (wpAny_typeOf ht.typeIs (wpAny_pure ?_)))
 rw [if_pos (by decide)]
 refine wpAny_bind (wpAny_rule (wpAny_pure ⟨_,rfl,wpAny_pure h⟩))
end
section
variable {X:Cx}
def JL (K:KW):V->Option Int->Option Int->Hp->VK->Prop:=fun x lo hi H Q=>∃a xs,x = .ref a/\dh K H a xs/\(HT.bq xs.length 0 lo=0/\HT.bq xs.length xs.length hi=xs.length)/\Q (.ref a) H
theorem w9:kQ X (JL X.kw):=by
 intro pins s σ H x v vl vu lo hi sl Q I rx hs pl pu h
 obtain⟨a,xs,rfl,hx,hw,q⟩:=h
 cases rx
 obtain⟨its,r,ht,hz⟩:=I.tuple hx
 have hlen:its.toArray.size=xs.length:=by rw [List.size_toArray];exact r.length.symm
 refine⟨"tuple",_,PyProof.Rows.slot_tuple_getitem.lookup,ht.typeIs,?_⟩
 exact jx ht hs pl pu (by rw [hlen];exact hw) ⟨.ref a,H,I,rfl,q⟩
def eu (d:D)(lo hi:Option Int)(g:G):Option (D×G):=match d with
 | .tup xs=>some (.tup (cutD xs lo hi),g)
 | d=>lY d lo hi g
theorem vD {xs:List D}{lo hi:Option Int}(h:eL xs.length lo hi=true):cutD xs lo hi=xs:=by
 unfold eL at h
 rw [Bool.and_eq_true,decide_eq_true_eq,decide_eq_true_eq] at h
 unfold cutD
 rw [h.1,h.2]
 simp
def cQ (fa:FE)(fl fh:FO):FE:=fun σ g=>(fa σ g).bind fun r=>(fl σ r.2).bind fun l=>(fh σ l.2).bind fun h=>eu r.1 l.1 h.1 h.2
theorem uP {a:Expr}{lo hi:Option Expr}{fa:FE}{fl fh:FO}{p2 pos:Pos}(ha:DE X a fa)(hl:DO X lo fl)(hh:DO X hi fh):DE X (.Subscript a (.Slice lo hi none p2) pos) (cQ fa fl fh):=.of (
 PE.imp (yQ (kQ.or z6 w9) ha.un hl.un hh.un) fun σ H Q h=>by
  obtain⟨ι,σd,g,d,g',G0,S0,h,p⟩:=h
  obtain⟨⟨d1,g1⟩,h1,h⟩:=bind_some h
  obtain⟨⟨l,g2⟩,h2,h⟩:=bind_some h
  obtain⟨⟨u,g3⟩,h3,h⟩:=bind_some h
  refine tD.bind G0 S0 h1 fun H1 ι1 v e1 G1 S1 r1=>?_
  refine⟨ι1,σd,g1,l,g2,G1,S1,h2,fun H2 ι2 e2 G2=>?_⟩
  refine⟨ι2,σd,g2,u,g3,G2,S1.ext e2,h3,fun H3 ι3 e3 G3=>?_⟩
  have r3:=Rel.ext (e2.trans e3) _ r1
  have p3:=p.mono (e1.trans (e2.trans e3))
  have lst:∀{xs:List D} {a:Addr} {vs:List V},v = .ref a->cD X.kw H3 a vs->ag X.kw H3 ι3 xs vs->some (D.lst (cutD xs l u),g3)=some (d,g')->BM X.kw v l u H3 Q:=fun {xs a vs} ev hq hr hh=>by
   cases hh
   refine .inr ⟨a,vs,ev,hq,fun q hq'=>p3 _ _ _ (Ext.lay hq') (G3.lay hq') ?_⟩
   simp only [Rel]
   exact⟨q,_,rfl,.inl ⟨.inl aX,G3.fresh hq',G3.fX hq'⟩,ag.ext (Ext.lay hq') _ (hr.Cn l u)⟩
  dsimp only at h
  cases d1 with
  | tup xs =>
   simp only [eu] at h
   cases h
   have r4:=r3
   simp only [Rel] at r3
   obtain⟨a,vs,rfl,hq,hr⟩:=r3
   by_cases z:eL xs.length l u=true
   . refine .inr ⟨a,vs,rfl,hq.sq,?_,p3 _ _ _ Ext.refl G3 ?_⟩
     . unfold eL at z
       rw [hr.length,Bool.and_eq_true,decide_eq_true_eq,decide_eq_true_eq] at z;exact z
     . rw [vD z];exact r4
   . refine .inl (.inl ⟨a,vs,rfl,hq.sq,fun c=>z ?_,fun q hq'=>p3 _ _ _ (Ext.lay hq') (G3.lay hq') ?_⟩)
     . unfold eL
       rw [hr.length,Bool.and_eq_true,decide_eq_true_eq,decide_eq_true_eq];exact c
     . simp only [Rel]
       exact⟨q,_,rfl,.inl ⟨.inl aX,G3.fresh hq'⟩,ag.ext (Ext.lay hq') _ (hr.Cn l u)⟩
  | lst xs =>
   simp only [eu,lY] at h
   simp only [Rel] at r3
   obtain⟨a,vs,e0,hq,hr⟩:=r3
   exact .inl (lst e0 hq.sq hr h)
  | ref n =>
   simp only [eu,lY] at h
   split at h
   . rename_i xs hx
     simp only [Rel] at r3
     obtain⟨a,e0,ha⟩:=r3
     obtain⟨vs,hv,hr⟩:=G3.at hx ha
     exact .inl (lst e0 (.of hv) hr h)
   . cases h
  | _=>cases h)
end
@[simp] theorem J5 {fa:FE}{fl fh:FO}{σ:Sg}{g:G}:cQ fa fl fh σ g=(fa σ g).bind fun r=>(fl σ r.2).bind fun l=>(fh σ l.2).bind fun h=>eu r.1 l.1 h.1 h.2:=rfl
theorem eM {d:D}{lo hi:Option Int}{g g':G}{xs:List D}(h:lY (.tup xs) lo hi g=some (d,g')):eu (.tup xs) lo hi g=some (d,g'):=by
 simp only [lY] at h
 split at h
 . cases h
 . exact h
end L3
namespace L3
open PySem PySem.Spec PyProof.Rows L2
mutual
def nd:D->Nat
 | .tup xs=>HC xs+1
 | _=>1
def HC:List D->Nat
 | []=>0
 | d::ds=>nd d+HC ds
end
section
variable {X:Cx}
def fz (ds:List D)(g:G):Option (D×G):=match ds with | [d]=>(dP d g).bind fun xs=>(bools xs).map fun bs=>(.bl (bs.any id),g) | _=>none
theorem AX (hc:X.calm=true):b7 X (.builtin "any") (fI X.kw fz):=by
 intro pins s σ H xs us Q I r q
 obtain⟨ι,g,ds,d,g',G0,r1,q,p⟩:=q
 cases ds with
 | nil=>cases q
 | cons e dsr =>
 cases dsr with
 | cons _ _=>cases q
 | nil =>
  simp only [fz] at q
  obtain⟨ys,hx,q⟩:=bind_some q
  cases hb:bools ys with
  | none=>rw [hb] at q;cases q
  | some bs =>
   rw [hb] at q;cases q
   simp only [ag] at r1
   obtain⟨v,_,rfl,rv,rfl⟩:=r1
   obtain⟨a,vs,rfl,hq,hr⟩:=fQ G0 rv hx
   obtain⟨u,rfl,ru⟩:=vals1 r
   cases ru
   obtain⟨its,rits,pl,hz⟩:=I.list hq
   have e0:=jy hb hr rits
   subst e0
   have hl:=pl.isList
   have hlt:a<s.heap.objs.size:=by obtain⟨_,e,_⟩:=hl;exact Heap.lt_size e
   refine call_any_walk (wpAny_pyIter_list hl ?_)
   refine⟨s.heap.objs.size,[s.heap.objs.size,a],[s.heap.objs.size],_,_,_,fun i=>(bs[i]?).getD false,rfl,Walks.list (A:=X.A.in1) (I.ok.hd hc) _ a (Nat.ne_of_lt hlt) _,
     ⟨⟨_,Heap.get?_push_size _ rfl,rfl,rfl⟩,hl.push _⟩,fun i v s' Q' E' hP hQ=>?_,fun h' tk hk=>?_⟩
   . have hP':(bs.map Value.bool)[i]? = some v:=by simpa using hP
     rw [List.getElem?_map] at hP'
     cases e:bs[i]? with
     | none=>rw [e] at hP';cases hP'
     | some b =>
      rw [e] at hP';cases hP'
      dsimp only at hQ
      rw [e] at hQ
      exact wpAny_truthy_bool hQ
   . have e:((List.range (bs.map Value.bool).toArray.size).any fun i=>(bs[i]?).getD false)=bs.any id:=by
      rw [List.size_toArray,List.length_map];exact tw bs
     rw [e]
     exact⟨.bl _,H,I.kept (mh hk),rfl,p H ι _ Ext.refl G0 (by simp [Rel])⟩
end
section
variable {X:Cx}
def Gg (K:KW):V->List V->Hp->VK->Prop:=fun x vs H Q=>∃a xs y j,x = .ref a/\cD K H a (xs.map toV)/\vs = [toV y]/\dW y=true/\xs.all dW=true/\lE xs y=some j/\Q (.int j) H
theorem vV:GV X "list.index" (Gg X.kw):=by
 intro pins s σ H x vs v us Q I rx rv h
 obtain⟨a,xs,y,j,rfl,hq,rfl,hy,hx,hj,q⟩:=h
 cases rx
 obtain⟨u,rfl,ru⟩:=rv.one
 obtain⟨its,rits,pl,hz⟩:=I.list hq
 obtain⟨⟨cls,dd,data,sl⟩,n,hg,h2,h3,h4⟩:=id pl
 simp only at h2 h3 h4
 subst h2 h3 h4
 have fy:gF (toV y)=true:=(kg hy (nk (K:=X.kw) (H:=H) (ι:=⟨[],[],fun _=>0⟩) hy)).2
 have fx:(xs.map toV).all gF=true:=(lC hx (p4 (K:=X.kw) (H:=H) (ι:=⟨[],[],fun _=>0⟩) hx)).2
 unfold lE at hj
 rw [List.findIdx?_eq_some_iff_getElem] at hj
 obtain⟨hlt,hit,hno⟩:=hj
 have hlen:(xs.map toV).length=its.length:=rits.length
 rw [List.length_map] at hlen
 have hsz:j<its.toArray.size:=by rw [List.size_toArray];omega
 have item:∀m (hm:m<xs.length) (hm':m<its.toArray.size),zM (toV y) its.toArray[m]=aB xs[m] y:=fun m hm hm'=>by
  obtain⟨u',e',r'⟩:=rits.get (i:=m) (x:=toV xs[m]) (by rw [List.getElem?_map,List.getElem?_eq_getElem hm];rfl)
  have hm2:m<its.length:=by simpa using hm'
  rw [List.getElem?_eq_getElem hm2] at e'
  cases e'
  have fm:dW xs[m]=true:=List.all_eq_true.mp hx _ (List.getElem_mem hm)
  rw [List.getElem_toArray,wL r' (kg fm (nk (K:=X.kw) (H:=H) (ι:=⟨[],[],fun _=>0⟩) fm)).2,FY fm hy]
 have hzz:its.length<=sizeLine:=by
  have:=rits.length
  first | omega | (simp only [List.length_map] at *;omega)
 have hsl:sizeLine<2 ^ 62:=by decide
 refine call_meets F.slot_list_index ⟨_,hg,rfl⟩ F.entry_list_index (F.args_list_index_2 _ _) (SeqAt.list_indexAt a its.toArray n none sl u (zM (toV y)) j hsz (by rw [List.size_toArray] at hsz;omega) (by rw [item j hlt hsz];exact hit) (fun m hm hmj=>by
  have hm2:m<xs.length:=by omega
  rw [item m hm2 hm]
  simpa using hno m hmj)) ⟨hg,fun z hz=>qA ru fy rits fx z (by simpa using hz),?_⟩
 exact⟨.int j,H,I.tok _,⟨_,rfl⟩,q⟩
end
section
variable {X:Cx}
theorem C5:bw X (binaryOp .LShift) (cA X.kw (aY cu (fun i j=>i*2 ^ j.toNat))):=fw Cf fun i j h=>by
 unfold cu at h
 simp only [Bool.and_eq_true] at h
 have h2:=Nat.le_of_ble_eq_true h.2
 cases j with
 | ofNat n =>
  have h1:=Nat.le_of_ble_eq_true (show Nat.ble n 1000000=true from h.1)
  exact⟨Int.natCast_nonneg n,(by show((n:Nat):Int)<=1000000;omega),(by omega)⟩
 | negSucc n=>exact absurd h.1 (by simp)
theorem B2:bw X (binaryOp .BitAnd) (cA X.kw (aY bQ Builtin.bitAnd)):=fw (bw.imp Cj fun _ _ _ _=>j6) fun _ _ _=>trivial
theorem FH:bw X (binaryOp .BitOr) (cA X.kw (aY bQ Builtin.bitOr)):=fw (bw.imp F_ fun _ _ _ _=>j6) fun _ _ _=>trivial
end
end L3
namespace TL
open PySem PySem.Spec PySem.SeqAt PyProof.Rows
open AutoSeq1 (wpAny_loadPart')
open MeetsSeq MeetsSeq2 MeetsSeq3 SeqRoads2
def jk (A:Around)(s:Shared)(y x:Value)(b:Bool):Prop :=
 ∀(prog:Program) (w:World) (E:Value->Shared->Prop) (Q:Value->Shared->Prop),Q (.bool b) s->wpAny (model prog w) A (richCompare .Lt y x) Q E s
inductive Lex (A:Around)(s:Shared)(fin:Bool):List (Value×Value)->Bool->Prop
 | nil:Lex A s fin [] fin
 | eq {p q r k}:EqAt A s p q true->Lex A s fin r k->Lex A s fin ((p,q)::r) k
 | ne {p q r k}:EqAt A s p q false->jk A s p q k->Lex A s fin ((p,q)::r) k
theorem uy (l b:Addr)(items items2:Array Value)(n n2:Nat)(dd dd2:Option Addr)(sl sl2:Array (Option Value))(k:Bool) :
  Meets (Builtin.«tuple.__lt__» ⟨[.ref l,.ref b],[]⟩)
   (fun A R s=>s.heap.get? l=some { cls:=.type "tuple",dict:=dd,data:=.seq items n,slots:=sl }/\s.heap.get? b=some { cls:=.type "tuple",dict:=dd2,data:=.seq items2 n2,slots:=sl2 } /\
    Lex A.in1 s (decide (items.size<items2.size)) (items.toList.zip items2.toList) k/\R (.ok (.ret (.bool k))) s) :=
 .of_wp fun prog w A R s h=>by
  obtain⟨hp,g,d,tk,os⟩:=s;obtain⟨hl,hb,he,h⟩:=h
  have f2:=AutoSeq1.sub_tuple_tuple
  wp_walk using wpAny_loadPart' hl,wpAny_loadPart' hb,wpAny_forIn_list _ (fun rest b s'=>b.1=none/\s'=⟨hp,g,d,tk,os⟩/\Lex A.in1 ⟨hp,g,d,tk,os⟩ (decide (items.size<items2.size)) rest k) _
  case turn =>
   rintro⟨y,x⟩ rest b s' ⟨hb',rfl,hz⟩
   cases hz with
   | eq e1 e2 =>
    refine wpAny_bind (e1 prog w _ _ ?_)
    wp_walk
    exact⟨rfl,rfl,e2⟩
   | ne e1 e2 =>
    refine wpAny_bind (e1 prog w _ _ ?_)
    simp only [Bool.not_false,if_true]
    refine wpAny_bind (wpAny_rule ?_)
    refine wpAny_bind (e2 prog w _ _ ?_)
    wp_walk
    exact⟨_,rfl,h⟩
  case fin =>
   rintro⟨b1,b2⟩ s' ⟨hb',rfl,hz⟩
   simp only at hb'
   subst hb'
   cases hz
   wp_walk
   exact⟨_,rfl,by simpa [Builtin.Tuple.tupleCompareSizes] using h⟩
  case h =>
   exact⟨rfl,rfl,he⟩
section
variable {A:Around}{s:Shared}
theorem jk.tuples {l b:Addr}{items items2:Array Value}{k:Bool}(hl:s.heap.IsTuple l items)(hb:s.heap.IsTuple b items2)(hu:A.units<cLine)
  (he:Lex A.in1 s (decide (items.size<items2.size)) (items.toList.zip items2.toList) k):jk A s (.ref l) (.ref b) k:=fun prog w E Q h=>by
 obtain⟨⟨cls,dd,data,sl⟩,ho,hc,n,hd⟩:=id hl
 obtain⟨⟨cls2,dd2,data2,sl2⟩,ho2,hc2,n2,hd2⟩:=id hb
 simp only at hc hd hc2 hd2
 subst hc hd hc2 hd2
 exact richCompare_meets_room (op:=.Lt) ⟨_,ho,rfl⟩ ⟨_,ho2,rfl⟩ F.slot_tuple_lt F.entry_tuple_lt (F.args_tuple_lt_2 _ _) (uy l b items items2 n n2 dd dd2 sl sl2 k)
  ⟨ho,ho2,he,show Value.bool k≠Value.notImplemented/\Q (.bool k) s from⟨(fun x=>nomatch x),h⟩⟩ hu
theorem jk.ints (a b:Int)(t u:Tok):jk A s (.int a t) (.int b u) (decide (a<b)):=fun prog w E Q h =>
 wpAny_richCompare_same (op:=.Lt) (typeIs_int s a t) (typeIs_int s b u) slot_int_lt (call_int_lt ⟨(fun x=>nomatch x),h⟩)
theorem jk.strs (a b:Str)(t u:Tok):jk A s (.str a t) (.str b u) (decide (a.cps.toList<b.cps.toList)):=fun prog w E Q h =>
 wpAny_richCompare_same (op:=.Lt) (typeIs_str s a t) (typeIs_str s b u) slot_str_lt (call_str_lt ⟨(fun x=>nomatch x),h⟩)
end
open PySem.W
section
variable {prog:Program}{w:World}{A:Around}{E:Value->Shared->Prop}{s:Shared}
def cO (h:Heap)(a:Addr)(vs:List Value):Heap:=((h.update a (Obj.mapSeq fun _=>#[])).push (seqObj "tuple" vs.toArray 0)).push (seqObj "list" #[] 0)
theorem rh {h:Heap}{a b:Addr}{vs:List Value}{o:Obj}(hb:b≠a)(ho:h.get? b=some o):(cO h a vs).get? b=some o:=by
 unfold cO
 have hlt:=Heap.lt_size ho
 rw [Heap.get?_push_ne _ _ _ (by rw [size_push',Heap.size_update];exact Nat.ne_of_lt (Nat.lt_succ_of_lt hlt)),Heap.get?_push_ne _ _ _ (by rw [Heap.size_update];exact Nat.ne_of_lt hlt),Heap.get?_update_ne _ _ _ _ hb]
 exact ho
end
end TL
namespace L3
open PySem PySem.Spec PyProof.Rows L2
def b9 (nn L:Nat)(t:FG)(c:FT)(e:FE):Nat->Sg->G->Option (List D×G)
 | 0,_,g=>(g[nn]?).bind fun xs=>if xs.length=L then some ([],g) else none
 | r+1,σ,g=>(g[nn]?).bind fun xs=>if xs.length=L then(xs[L-(r+1)]?).bind fun d=>(t d σ g).bind fun q=>(c q.1 q.2).bind fun k=>if k.1=true then(e q.1 k.2).bind fun r'=>(b9 nn L t c e r q.1 r'.2).bind fun z=>some (r'.1::z.1,z.2) else b9 nn L t c e r q.1 k.2 else none
theorem rE {nn L:Nat}{t:FG}{c:FT}{e:FE}{σ:Sg}{g g':G}{all:List D}(h:b9 nn L t c e 0 σ g=some (all,g')):∃xs,g[nn]? = some xs/\xs.length=L/\all = []/\g'=g:=by
 simp only [b9] at h
 obtain⟨xs,hx,h⟩:=bind_some h
 split at h
 . rename_i z
   cases h
   exact⟨xs,hx,z,rfl,rfl⟩
 . cases h
theorem rC {nn L r:Nat}{t:FG}{c:FT}{e:FE}{σ:Sg}{g:G}{o:List D×G}(h:b9 nn L t c e (r+1) σ g=some o):∃xs d,g[nn]? = some xs/\xs.length=L/\xs[L-(r+1)]? = some d/\((t d σ g).bind fun q=>(c q.1 q.2).bind fun k=>if k.1=true then(e q.1 k.2).bind fun r'=>(b9 nn L t c e r q.1 r'.2).bind fun z=>some (r'.1::z.1,z.2) else b9 nn L t c e r q.1 k.2)=some o:=by
 simp only [b9] at h
 obtain⟨xs,hx,h⟩:=bind_some h
 split at h
 . rename_i z
   obtain⟨d,hd,h⟩:=bind_some h
   exact⟨xs,d,hx,z,hd,h⟩
 . cases h
abbrev jr:=Sg->G->Option (Nat×Nat×G)
def md (K:KW)(J:It)(H:Hp)(ι:Ix)(nn L:Nat):Prop :=
 ∀(i:Nat) H1 ι1 g1,gA H ι H1 ι1->ay K H1 ι1 g1->∀xs,g1[nn]? = some xs->xs.length=L->(L<=i->J.stop i H1) /\ ∀d,xs[i]? = some d->J.go i H1 /\ ∀x H2,J.yld i H1 x H2->Ext H1 ι1 H2 ι1/\ay K H2 ι1 g1/\Rel K H2 ι1 d x
inductive DH (K:KW)(f:jr)(σ:L2.St)(H:Hp)(R:(It->Hp->Prop)):Prop
 | mk (ι:Ix) (σd:Sg) (g:G) (nn:Nat) (L:Nat) (g':G) (h0:ay K H ι g) (h1:a_ K H ι σd σ) (h2:f σd g=some (nn,L,g')) (h3:∀H' ι' J,Ext H ι H' ι'->ay K H' ι' g'->md K J H' ι' nn L->R J H'):DH K f σ H R
structure we (X:Cx)(tg iter:Expr)(f:jr):Prop where of ::
 un:PI X tg iter (DH X.kw f)
def gq (f:FE):jr:=fun σ g=>(f σ g).bind fun r=>match r.1 with | .ref n=>(r.2[n]?).bind fun xs=>some (n,xs.length,r.2) | _=>none
theorem md.ref {K H ι a n L}(h:cS ι n a false):md K (zd K a) H ι n L:=fun i H1 ι1 g1 e1 G1 xs hx hl=>by
 obtain⟨vs,hv,hr⟩:=G1.at hx (e1.at h)
 have hq:cD K H1 a vs:=.inl (.inl hv)
 refine⟨fun h=>⟨vs,hq,by rw [<- hr.length];omega⟩,fun d hd=>?_⟩
 obtain⟨v,hv',rv⟩:=hr.get hd
 refine⟨⟨vs,v,hq,hv'⟩,fun x H2 y=>?_⟩
 obtain⟨rfl,y⟩:=y
 have:=y vs hq
 rw [hv'] at this;cases this
 exact⟨Ext.refl,G1,rv⟩
theorem sO {X:Cx}{tg l:Expr}{fe:FE}(hl:DE X l fe):we X tg l (gq fe):=.of (PI.imp (sd hl.un) fun σ H Q h=>by
 obtain⟨ι,σd,g,nn,L,g',G0,S0,h,p⟩:=h
 obtain⟨⟨d1,g1⟩,h1,h⟩:=bind_some h
 cases d1 with
 | ref n =>
  obtain⟨xs,hx,h⟩:=bind_some h
  cases h
  refine tD.bind G0 S0 h1 fun H1 ι1 v e1 G1 S1 r1=>?_
  simp only [Rel] at r1
  obtain⟨a,rfl,ha⟩:=r1
  obtain⟨vs,hv,hr⟩:=G1.at hx ha
  exact⟨a,rfl,⟨vs,.inl (.inl hv)⟩,p H1 ι1 _ e1 G1 (.ref ha)⟩
 | _=>cases h)
inductive qN (X':Cx)(t:FG)(c:FT)(e:FE)(fp:List Addr)(Dl:Addr)(tn:Nat->Heap->Prop)(nn L:Nat)(all:List D)(H1:Hp)(ι1:Ix)(g':G)(n:Nat)(s:Shared):Prop
 | mk (i:Nat) (σ:L2.St) (H:Hp) (ιo:Ix) (σd:Sg) (g:G) (vs:List V) (acc more:List D) (hn:n=L+1-i) (hil:i<=L) (I:Inv X' [] σ H s) (ti:tn i s.heap) (fri:∀b∈fp,H b=none) (E1:Ext H1 ι1 H ιo) (G1:ay X'.kw H (Ix.hide ιo Dl) g) (S1:a_ X'.kw H (Ix.hide ιo Dl) σd σ)
  (hHD:H Dl=some (.lst vs)) (racc:ag X'.kw H (Ix.hide ιo Dl) acc vs) (hal:acc.length<=i) (hf:b9 nn L t c e (L-i) σd g=some (more,g')) (ea:all=acc++more):qN X' t c e fp Dl tn nn L all H1 ι1 g' n s
theorem tP {X':Cx}{tg iter elt:Expr}{ifs:List Expr}{scope:Scope}{pos:Pos}{t:FG}{c:FT}{e:FE}{J:It}{fp:List Addr}{it Dl:Addr}{tn:Nat->Heap->Prop}{all:List D}{nn L:Nat}{H1:Hp}{ι1:Ix}{g':G}{R:Result->Shared->Prop}
   (hxe:X'.xe=fun _ _=>False) (hc:X'.calm=true) (T:Turn X'.prog X'.w X'.kw tg J fp it tn) (hfp:∀b∈fp,cM X' [] X'.H₀ b) (J1:md X'.kw J H1 ι1 nn L) (hD:H1 Dl=none) (hz:L<=sizeLine)
   (hg:DG X' tg t) (hi:dY X' ifs c) (he:DE X' elt e)
   (fin:∀s' σ' H' ιo vs,Inv X' [] σ' H' s'->(∀b∈fp,H' b=none)->Ext H1 ι1 H' ιo->ay X'.kw H' (Ix.hide ιo Dl) g'->H' Dl=some (.lst vs)->ag X'.kw H' (Ix.hide ιo Dl) all vs->R (.ok .next) s') :
   ∀(s:Shared) (σ:L2.St) (H:Hp) (ιo:Ix) (σd:Sg) (g:G),Inv X' [] σ H s->tn 0 s.heap->(∀b∈fp,H b=none)->Ext H1 ι1 H ιo->ay X'.kw H (Ix.hide ιo Dl) g->a_ X'.kw H (Ix.hide ιo Dl) σd σ->H Dl=some (.lst [])->b9 nn L t c e L σd g=some (all,g') ->
    codeAny (model X'.prog X'.w) X'.A (.compLoop (.ListComp elt [⟨tg,iter,ifs,0⟩] scope pos) 0 (.ref it) (.ref Dl) X'.env) R s:=by
 intro s σ H ιo σd g I t0 fr0 E0 G0 S0 hH hf0
 have stat:∀{H':Hp},(∀b∈fp,H' b=none)->∀b∈fp,cM X' [] H' b:=fun hn b hb=>⟨hn b hb,(hfp b hb).2⟩
 refine codeAny_loop rfl (qN X' t c e fp Dl tn nn L all H1 ι1 g') ?_ (L+1)
   ⟨0,σ,H,ιo,σd,g,[],[],all,rfl,Nat.zero_le _,I,t0,fr0,E0,G0,S0,hH,by simp [ag],Nat.le_refl _,by simpa using hf0,rfl⟩
 clear hf0 hH S0 G0 E0 fr0 t0 I g σd ιo H σ s
 rintro n s ⟨i,σ,H,ιo,σd,g,vs,acc,more,rfl,hil,I,ti,fri,E1,G1,S1,hHD,racc,hal,hf,rfl⟩
 show wpAny _ X'.A ((compTurn (.ListComp elt [⟨tg,iter,ifs,0⟩] scope pos) 0 (.ref it) (.ref Dl) X'.env).onRaise (fun x=>do noteFrame x X'.env;theTreesLotGoes x)) _ _ s
 refine wpAny_noted ?_
 rw [compTurn_list]
 refine wpAny_bind (wpAny_standAt (wpAny_bind ?_))
 have j1:=J1 i H (Ix.hide ιo Dl) g (E1.xm hD) G1
 by_cases hlt:i<L
 . rw [show L-i=(L-(i+1))+1 by omega] at hf
   obtain⟨xs,d0,hxs,hxl,hd0,hf⟩:=rC hf
   rw [show L-(L-(i+1)+1)=i by omega] at hd0
   obtain⟨st,go⟩:=j1 xs hxs hxl
   obtain⟨go,yl⟩:=go d0 hd0
   refine aU (T.item X' rfl rfl rfl hc i [] s σ H _ I (stat fri) ti go) fun r s4 ⟨u,hr,h4⟩=>?_
   subst hr
   refine wpAny_bind (aU h4 fun _ s5 ⟨x,H5,I5,r5,y5,t5,fr5⟩=>?_)
   obtain⟨e5,G5,rd5⟩:=yl x H5 y5
   obtain⟨⟨σ6,g6⟩,h6,hf⟩:=bind_some hf
   obtain⟨⟨k7,g7⟩,h7,hf⟩:=bind_some hf
   have I5':=I5.pinned (stat fr5) (T.obj _ _ t5)
   have lift:∀{α:Type} {tr:Sem α} {Q:α->Shared->Prop} {E:Value->Shared->Prop} {s:Shared},wpAny (model X'.prog X'.w) X'.A tr Q X'.xe s->wpAny (model X'.prog X'.w) X'.A tr Q E s:=fun h=>wpAny_mono h (fun _ _ q=>q) fun _ _ z=>by rw [hxe] at z;exact z.elim
   have again:∀{s9:Shared} {σ9:L2.St} {H9:Hp} {ι9:Ix} {σd9:Sg} {g9:G} {vs9:List V} {acc9:List D} {more9:List D},Inv X' ([]++hG fp s5.heap) σ9 H9 s9->Ext H1 ι1 H9 ι9->ay X'.kw H9 (Ix.hide ι9 Dl) g9->a_ X'.kw H9 (Ix.hide ι9 Dl) σd9 σ9 ->
     H9 Dl=some (.lst vs9)->ag X'.kw H9 (Ix.hide ι9 Dl) acc9 vs9->acc9.length<=i+1->b9 nn L t c e (L-(i+1)) σd9 g9=some (more9,g')->acc++more=acc9++more9 ->
     ∃m,m<L+1-i/\qN X' t c e fp Dl tn nn L (acc++more) H1 ι1 g' m s9:=by
    intro s9 σ9 H9 ι9 σd9 g9 vs9 acc9 more9 I9 E9 G9 S9 h9 r9 l9 f9 a9
    refine⟨L+1-(i+1),by omega,i+1,σ9,H9,ι9,σd9,g9,vs9,acc9,more9,rfl,hlt,I9.fR,T.keep _ _ _ t5 fun b hb o e=>(I9.pin (b,o) (List.mem_append_right _ (List.mem_append_right _ (cZ hb e)))).1,fun b hb=>?_,E9,G9,S9,h9,r9,l9,f9,a9⟩
    obtain⟨o,e,d⟩:=T.obj _ _ t5 b hb
    exact(I9.pin (b,o) (List.mem_append_right _ (List.mem_append_right _ (cZ hb e)))).2.1
   refine wpAny_bind (lift (aU (hg.un _ s5 σ H5 x u (fun σ' H'=>∃ι6,Ext H5 (Ix.hide ιo Dl) H' ι6/\ay X'.kw H' ι6 g6/\a_ X'.kw H' ι6 σ6 σ') I5' r5 ⟨Ix.hide ιo Dl,σd,g,d0,σ6,g6,G5,S1.ext e5,rd5,h6,fun H6 ι6 σ6' e6 G6 S6=>⟨ι6,e6,G6,S6⟩⟩) fun _ s6 q6=>?_))
   obtain⟨σ6',H6,I6,ι6,e6,G6,S6⟩:=q6
   refine wpAny_bind (lift (aU (hi.un _ s6 σ6' H6 (fun b H'=>b=k7 /\ ∃ι7,Ext H6 ι6 H' ι7/\ay X'.kw H' ι7 g7) I6 ⟨ι6,σ6,g6,k7,g7,G6,S6,h7,fun H7 ι7 e7 G7=>⟨rfl,ι7,e7,G7⟩⟩) fun ok s7 q7=>?_))
   obtain⟨H7,I7,rfl,ι7,e7,G7⟩:=q7
   have e57:=(e5.trans e6).trans e7
   obtain⟨E7,ei7⟩:=E1.j9 e57
   have hD7:H7 Dl=some (.lst vs):=e57.same Dl _ hHD (G1.hid Dl List.mem_cons_self).1
   have r7:=ag.ext e57 _ racc
   have S7:=S6.ext e7
   cases ok with
   | false =>
    simp only [Bool.false_eq_true,if_false] at hf
    refine wpAny_pure ⟨rfl,?_⟩
    rw [ei7] at G7 S7 r7
    exact again I7 E7 G7 S7 hD7 r7 (by omega) hf rfl
   | true =>
    simp only [if_true] at hf
    obtain⟨⟨d8,g8⟩,h8,hf⟩:=bind_some hf
    obtain⟨⟨more9,g9⟩,h9,hf⟩:=bind_some hf
    obtain⟨rfl,rfl⟩:d8::more9=more/\g9=g':=by cases hf;exact⟨rfl,rfl⟩
    refine wpAny_bind (wpAny_bind (lift (aU (he.un _ s7 σ6' H7 (fun v H'=>∃ι8,Ext H7 ι7 H' ι8/\ay X'.kw H' ι8 g8/\Rel X'.kw H' ι8 d8 v) I7 ⟨ι7,σ6,g7,d8,g8,G7,S7,h8,fun H8 ι8 v e8 G8 r8=>⟨ι8,e8,G8,r8⟩⟩) fun y s8 q8=>?_)))
    obtain⟨v8,H8,I8,rv8,ι8,e8,G8,r8⟩:=q8
    have e58:=e57.trans e8
    obtain⟨E8,ei8⟩:=E1.j9 e58
    have hD8:H8 Dl=some (.lst vs):=e58.same Dl _ hHD (G1.hid Dl List.mem_cons_self).1
    have racc8:=ag.ext e58 _ racc
    have S8:=S7.ext e8
    have hlen:vs.length<sizeLine:=by rw [<- racc.length];omega
    rw [ei8] at G8 S8 racc8 r8
    refine wpAny_bind (lift (aU (iq (X:=X') _ s8 σ6' H8 (.ref Dl) [v8] (.ref Dl) [y] (fun _ H'=>H'=upd H8 Dl (.lst (vs ++ [v8]))) I8 rfl (.cons rv8 .nil) ⟨Dl,vs,v8,rfl,rfl,hD8,hlen,rfl⟩) fun _ s9 q9=>?_))
    obtain⟨_,H9,I9,_,rfl⟩:=q9
    refine wpAny_pure (wpAny_pure ⟨rfl,?_⟩)
    refine again (acc9:=acc ++ [d8]) I9 (E8.ki hD) (G8.grow hD8) ⟨S8.1,fun j d q=>let⟨v,a,b⟩:=S8.2 j d q;⟨v,a,Rel.grow hD8 d b⟩⟩ aX ?_ (by simp;omega) h9 (by simp)
    exact ag.append (ag.grow hD8 _ racc8) (by simp only [ag];exact⟨v8,[],rfl,Rel.grow hD8 _ r8,rfl⟩)
 . have ei:i=L:=by omega
   subst ei
   rw [Nat.sub_self] at hf
   obtain⟨xs,hxs,hxl,rfl,rfl⟩:=rE hf
   obtain⟨st,go⟩:=j1 xs hxs hxl
   refine aU (T.done X' rfl rfl rfl hc _ [] s σ H _ I (stat fri) ti (st (Nat.le_refl _))) fun r s4 ⟨hr,I4⟩=>?_
   subst hr
   exact wpAny_pure (fin s4 σ H ιo vs I4 fri E1 G1 hHD (by simpa using racc))
def da (mk:List D->G->Option (D×G))(fi:jr)(fr:List (Option Nat))(t:FG)(c:FT)(e:FE):FE:=fun σ g=>(fi σ g).bind fun r=>if aF r.2.1=true then(b9 r.1 r.2.1 t c e r.2.1 (bu fr σ) r.2.2).bind fun q=>mk q.1 q.2 else none
section
variable {X:Cx}{tg iter elt:Expr}{ifs:List Expr}{scope:Scope}{pos cpos:Pos}{N:List Str}{fr:List (Option Nat)}{fi:jr}{t:FG}{c:FT}{e:FE}
theorem me {pins:List (Addr×Obj)}{s:Shared}{σ:L2.St}{H:Hp}{ι:Ix}{σd:Sg}{g g1 g':G}{all:List D}{nn L:Nat}{use:Option (Value->Sem Unit)}{Q:Value->Shared->Prop}
  (hxe:X.xe=fun _ _=>False) (hc:X.calm=true) (ok:dq X N fr scope) (hit:we X tg iter fi) (hin:∀C s3 H fp pins,DG (aW X N scope C s3 H fp pins) tg t/\dY (aW X N scope C s3 H fp pins) ifs c/\DE (aW X N scope C s3 H fp pins) elt e)
  (hs:∀x,foldedSetIterable iter X.env x=pure x) (I:Inv X pins σ H s) (G0:ay X.kw H ι g) (S0:a_ X.kw H ι σd σ) (h1:fi σd g=some (nn,L,g1)) (hz:aF L=true) (h2:b9 nn L t c e L (bu fr σd) g1=some (all,g'))
  (fin:∀s' H' ιo vs Dl C,Inv X pins σ H' s'->cM X pins H' C->(∃m,s'.heap.Ns C m)->Ext H ι H' ιo->ay X.kw H' (Ix.hide ιo Dl) g'->H' Dl=some (.lst vs)->ag X.kw H' (Ix.hide ιo Dl) all vs->Dl ∉ ιo.hd->H Dl=none->compPost (model X.prog X.w) X.A X.xe use Q (.ref Dl) C (.ok .next) s') :
  wpAny (model X.prog X.w) X.A (comprehension (.ListComp elt [⟨tg,iter,ifs,0⟩] scope pos) scope X.env cpos (newList []) false (eval iter X.env) use) Q X.xe s:=by
 have free:∀x∈scope.names,x.2 = .free->∃c,X.env.cells.lookup x.1=some c:=fun x hx hk=>I.ok.has x.1 (ok.free x hx hk).2
 refine wpAny_comprehension_free (use:=use) rfl hs (gr free) ok.kind ok.names (aU (hit.un pins s σ H (fun J H'=>∃ι1,Ext H ι H' ι1/\ay X.kw H' ι1 g1/\md X.kw J H' ι1 nn L) I ⟨ι,σd,g,nn,L,g1,G0,S0,h1,fun H1 ι1 J e1 G1 J1=>⟨ι1,e1,G1,J1⟩⟩) fun xv s1 h1'=>aU h1' fun itv s2 q2=>?_)
 obtain⟨it,fp,tn,J,H1,rfl,I1,T,t1,f1,ι1,e1,G1,J1⟩:=q2
 refine wpAny_newObj_type ?_
 have hDn:H1 s2.heap.objs.size=none:=I1.hok.fresh (Nat.le_refl _)
 generalize hs3:({ s2 with heap:=s2.heap.push { cls:=.type "list",dict:=none,data:=.seq ([]:List Value).toArray } }:Shared)=s3
 have I3:Inv X pins σ (upd H1 s2.heap.objs.size (.lst [])) s3:=by
  rw [<- hs3]
  exact I1.laid (t':=s2.toks) (fun b u e=>Heap.get?_push_of_some _ e) (Nat.le_refl _) ⟨Nat.zero_le _,[],0,.nil,Heap.get?_push_size _ rfl⟩
 have k3:∀b o,s2.heap.get? b=some o->s3.heap.get? b=some o:=fun b o e=>by rw [<- hs3];exact Heap.get?_push_of_some _ e
 have sz3:s3.heap.objs.size=s2.heap.objs.size+1:=by rw [<- hs3];exact Heap.size_push ..
 have hfl:∀b∈fp,b<s2.heap.objs.size:=fun b hb=>let⟨o,eo,_⟩:=T.obj _ _ t1 b hb;Heap.lt_size eo
 have f3:∀b∈fp,cM X pins (upd H1 s2.heap.objs.size (.lst [])) b:=fun b hb=>⟨by rw [aN (Nat.ne_of_lt (hfl b hb))];exact(f1 b hb).1,(f1 b hb).2⟩
 refine wpAny_newFunctionEnv ok.nocell (by intro y hy;simp at hy) (fun h4 hns hsb=>?_) ok.kind
 have k4:∀b o,s3.heap.get? b=some o->h4.get? b=some o:=fun b o e=>hsb.extBut b o (Nat.ne_of_lt (Heap.lt_size e)) (Heap.get?_push_of_some _ e)
 have hns':h4.Ns s3.heap.objs.size fun _=>none:=by simpa using hns
 have I4:=i3 (tk:=s3.toks+([]:List (Str×Value)).length) ok I3 f3 (fun b hb=>by rw [sz3];exact Nat.lt_succ_of_lt (hfl b hb)) hns' k4
 obtain⟨hg,hi,he⟩:=hin s3.heap.objs.size s3 (upd H1 s2.heap.objs.size (.lst [])) fp pins
 have t4:tn 0 h4:=T.keep _ _ _ t1 fun b hb o e=>k4 b o (k3 b o e)
 have fx:∀b∈fp,cM (aW X N scope s3.heap.objs.size s3 (upd H1 s2.heap.objs.size (.lst [])) fp pins) [] (upd H1 s2.heap.objs.size (.lst [])) b:=fun b hb=>by
  refine⟨(f3 b hb).1,?_,?_,.inl hb,?_,?_⟩
  . exact Nat.ne_of_lt (by rw [sz3];exact Nat.lt_succ_of_lt (hfl b hb))
  . exact I4.ok.exfs b hb
  . exact(I4.ok.exf b hb).2
  . intro p hp
    have hp':p∈X.pn++pins:=by
      have q:p∈(X.pn++pins) ++ []:=hp
      simpa using q
    exact(f1 b hb).2.2.2.2.2 p hp'
 have loop:codeAny (model X.prog X.w) X.A (.compLoop (.ListComp elt [⟨tg,iter,ifs,0⟩] scope pos) 0 (.ref it) (.ref s2.heap.objs.size) (compEnvC scope (gp scope X.env) s3.heap.objs.size X.env))
    (compPost (model X.prog X.w) X.A X.xe use Q (.ref s2.heap.objs.size) s3.heap.objs.size) { s3 with heap:=h4,toks:=s3.toks+([]:List (Str×Value)).length }:=by
  refine tP (X':=aW X N scope s3.heap.objs.size s3 (upd H1 s2.heap.objs.size (.lst [])) fp pins) (all:=all) (g':=g') rfl hc T fx J1 hDn (aF.le hz) hg hi he ?_ _ _ _ ι1 (bu fr σd) g1 I4 t4 (fun b hb=>(f3 b hb).1) ((Ext.refl (H:=H1) (ι:=ι1)).ki hDn) (G1.hide hDn) ?_ aX h2
  . intro s' σ' H' ιo vs I' fr' E' G' hD' r'
    have I5:Inv X pins σ H' s':=I3.uD (ch:=fp) I'.os I'.base I'.hok I'.bare fun b hb=>⟨(f3 b hb).2.2.2.1,(f3 b hb).2.1,(f3 b hb).2.2.2.2.1,(f3 b hb).2.2.2.2.2⟩
    obtain⟨m,hm,_⟩:=I'.loc
    refine fin s' H' ιo vs _ _ I5 ?_ ⟨m,hm⟩ (e1.trans E') G' hD' r' ?_ ?_
    . have z:=I3.gv (H':=H') (b:=s3.heap.objs.size) (Nat.le_refl _) I'.free
      exact z
    . rw [E'.hid];exact G1.fX hDn
    . cases q:H s2.heap.objs.size with
      | none=>rfl
      | some o=>exact absurd hDn (e1.there _ (by rw [q];simp))
  . have S1:a_ X.kw H1 ι1 (bu fr σd) (bu fr σ):=(S0.ext e1).sub fr
    exact⟨S1.1,fun j d q=>let⟨v,a,b⟩:=S1.2 j d q;⟨v,a,Rel.hide hDn d b⟩⟩
 exact codeAny_compStart_list loop (T.self _ 0 _ _ _ t4 loop)
theorem xB (hxe:X.xe=fun _ _=>False)(hc:X.calm=true)(ok:dq X N fr scope)(hit:we X tg iter fi)(hin:∀C s3 H fp pins,DG (aW X N scope C s3 H fp pins) tg t/\dY (aW X N scope C s3 H fp pins) ifs c/\DE (aW X N scope C s3 H fp pins) elt e)
   (hs:∀x,foldedSetIterable iter X.env x=pure x:=by intro _;rfl):DE X (.ListComp elt [⟨tg,iter,ifs,0⟩] scope pos) (da bB fi fr t c e):=.of (by
 intro pins s σ H Q I h
 obtain⟨ι,σd,g,d,gg,G0,S0,h,p⟩:=h
 obtain⟨⟨nn,L,g1⟩,h1,h⟩:=bind_some h
 dsimp only at h
 split at h
 . rename_i hz
   obtain⟨⟨all,g'⟩,h2,h⟩:=bind_some h
   rw [eval_ListComp]
   refine me (use:=none) hxe hc ok hit hin hs I G0 S0 h1 hz h2 fun s' H' ιo vs Dl C I' fC ⟨m,hm⟩ e' G' hD r hn hf0=>?_
   refine⟨m,hm,fun h'' sb=>⟨.ref Dl,H',?_,rfl,ia e' G' hD r hn h p⟩⟩
   obtain⟨f0,f1,f2,f3,f4,f5⟩:=fC
   exact I'.turned (t':=s'.toks) (fun b o hb e=>sb.extBut b o hb e) f0 f1 f3 f4 f5
 . cases h)
theorem oy {mk:List D->G->Option (D×G)}{i:Nat}{x:Str}{px spos:Pos}(hmk:∀{H ι H' ιo g' all vs Dl d gg Q},Ext H ι H' ιo->H Dl=none->ay X.kw H' (Ix.hide ιo Dl) g'->H' Dl=some (.lst vs)->ag X.kw H' (Ix.hide ιo Dl) all vs->Dl ∉ ιo.hd->mk all g'=some (d,gg)->eh X.kw H ι d gg Q->Q (.ref Dl) H')
   (hxe:X.xe=fun _ _=>False) (hc:X.calm=true) (ok:dq X N fr scope) (hit:we X tg iter fi) (hin:∀C s3 H fp pins,DG (aW X N scope C s3 H fp pins) tg t/\dY (aW X N scope C s3 H fp pins) ifs c/\DE (aW X N scope C s3 H fp pins) elt e)
   (hN:X.N.Nodup) (hi:X.N[i]? = some x) (hx:Loc X.env.scope x)
   (hsw:swapsWith (.ListComp elt [⟨tg,iter,ifs,0⟩] scope pos) (some (.Name x px)) spos.line X.env=pure true)
   (hs:∀x,foldedSetIterable iter X.env x=pure x) (hf:X.fn x=true\/X.env.scope.names.lookup x=some .local):DS X (.Assign [.Name x px] (.ListComp elt [⟨tg,iter,ifs,0⟩] scope pos) spos) (aA (da mk fi fr t c e) (gN i)):=.of (by
 intro pins s σ H Dn I h
 obtain⟨ι,σd,g,r,σd',gg,G0,S0,h0,p⟩:=h
 obtain⟨⟨d,gg'⟩,h1',hr⟩:=bind_some h0
 have hr':some (F.nx,σd.set i (some d),gg')=some (r,σd',gg):=hr
 clear h0
 obtain⟨⟨nn,L,g1⟩,h1,h3⟩:=bind_some (x:=fi σd g) h1'
 dsimp only at h3
 split at h3
 . rename_i hz
   obtain⟨⟨all,g'⟩,h2,h4⟩:=bind_some h3
   rw [exec_Assign_Name_used _ _ _ _ hsw]
   refine wpAny_bind (wpAny_standAt (wpAny_bind ?_))
   show wpAny _ X.A (do let _ <- comprehension (.ListComp elt [⟨tg,iter,ifs,0⟩] scope pos) scope X.env _ (newList []) false (eval iter X.env) (some (assign (.Name x px) X.env))) _ _ s
   refine wpAny_bind (wpAny_mono (me (use:=some (assign (.Name x px) X.env)) (Q:=fun _ s'=>SP X pins Dn .next s') hxe hc ok hit hin hs I G0 S0 h1 hz h2 fun s' H' ιo vs Dl C I' fC ⟨m,hm⟩ e' G' hD r hn hf0=>?_) (fun _ s' hq=>wpAny_pure (wpAny_pure hq)) fun _ _ e=>e)
   show wpAny _ X.A (assign (.Name x px) X.env (.ref Dl)) _ _ _
   refine wpAny_assign_Name (jH I' hN hi hx (v:=.ref Dl) rfl (fun s'' I'' ⟨a,sb,ha⟩=>?_) hf)
   obtain⟨f0,f1,f2,f3,f4,f5⟩:=fC
   have hac:C≠a:=by
    rcases ha with rfl | ha
    . exact f1
    . exact fun z=>f4 _ _ ha z.symm
   obtain⟨oc,es,ep,ho,rest⟩:=hm
   refine⟨m,⟨oc,es,ep,(sb.2 C hac).trans ho,rest⟩,fun h'' sb2=>?_⟩
   refine⟨σ.set i (some (.ref Dl)),H',I''.turned (t':=s''.toks) (fun b o hb e=>sb2.extBut b o hb e) f0 f1 f3 f4 f5,?_⟩
   cases hr'
   exact hmk (Q:=fun v H'=>Dn.nx (σ.set i (some v)) H') e' hf0 G' hD r hn h4 fun H2 ι2 v e2 G2 r2=>p H2 ι2 e2 G2 _ ((S0.ext e2).set r2 i)
 . cases h3)
theorem qK {i:Nat}{x:Str}{px spos:Pos}(hxe:X.xe=fun _ _=>False)(hc:X.calm=true)(ok:dq X N fr scope)(hit:we X tg iter fi)(hin:∀C s3 H fp pins,DG (aW X N scope C s3 H fp pins) tg t/\dY (aW X N scope C s3 H fp pins) ifs c/\DE (aW X N scope C s3 H fp pins) elt e)
  (hN:X.N.Nodup) (hi:X.N[i]? = some x) (hx:Loc X.env.scope x) (hsw:swapsWith (.ListComp elt [⟨tg,iter,ifs,0⟩] scope pos) (some (.Name x px)) spos.line X.env=pure true:=by rfl)
  (hs:∀x,foldedSetIterable iter X.env x=pure x:=by intro _;rfl) (hf:X.fn x=true\/X.env.scope.names.lookup x=some .local:=by first | exact .inl rfl | exact .inr rfl | assumption) :
  DS X (.Assign [.Name x px] (.ListComp elt [⟨tg,iter,ifs,0⟩] scope pos) spos) (aA (da bB fi fr t c e) (gN i)) :=
 (oy (fun e' _ G' hD r hn h4 p=>ia e' G' hD r hn h4 p) hxe hc ok hit hin hN hi hx hsw hs hf)
end
section
variable {σ:Sg}{g:G}{fa:FE}
@[simp] theorem nz:gq fa σ g=(fa σ g).bind fun r=>match r.1 with | .ref n=>(r.2[n]?).bind fun xs=>some (n,xs.length,r.2) | _=>none:=rfl
@[simp] theorem j5 {mk:List D->G->Option (D×G)}{fi:jr}{fr:List (Option Nat)}{t:FG}{c:FT}:da mk fi fr t c fa σ g=(fi σ g).bind fun r=>if aF r.2.1=true then(b9 r.1 r.2.1 t c fa r.2.1 (bu fr σ) r.2.2).bind fun q=>mk q.1 q.2 else none:=rfl
end
theorem jA {t:FG}{c:FT}{e:FE}{nn:Nat}{g:G}{xs:List D}(hx:g[nn]? = some xs):∀(k:Nat) (σ:Sg) (r:List D),k<=xs.length->(∀σ d q,t d σ g=some q->q.2=g)->(∀σ q,c σ g=some q->q.2=g)->(∀σ q,e σ g=some q->q.2=g)->bW t c e (xs.drop (xs.length-k)) σ g=some (r,g)->b9 nn xs.length t c e k σ g=some (r,g)
 | 0,σ,r,_,_,_,_,h=>by
  simp only [Nat.sub_zero,List.drop_length,bW] at h
  cases h
  simp [b9,hx]
 | k+1,σ,r,hk,ht,hc,he,h=>by
  have hlt:xs.length-(k+1)<xs.length:=by omega
  rw [List.drop_eq_getElem_cons hlt,show xs.length-(k+1)+1=xs.length-k by omega] at h
  simp only [bW] at h
  obtain⟨q,h1,h⟩:=bind_some h
  obtain⟨b,h2,h⟩:=bind_some h
  obtain⟨q1,q2⟩:=q
  obtain⟨b1,b2⟩:=b
  have:=ht _ _ _ h1
  dsimp only at this;subst this
  have:=hc _ _ h2
  dsimp only at this;subst this
  simp only [b9,hx,Option.bind_some,List.getElem?_eq_getElem hlt,h1,h2,if_true]
  cases b1 with
  | false =>
   simp only [Bool.false_eq_true,if_false] at h ⊢
   exact jA hx k q1 r (by omega) ht hc he h
  | true =>
   simp only [if_true] at h ⊢
   obtain⟨⟨d3,g3⟩,h3,h⟩:=bind_some h
   have:=he _ _ h3
   dsimp only at this;subst this
   obtain⟨⟨z1,z2⟩,h4,h⟩:=bind_some h
   cases h
   rw [h3]
   simp only [Option.bind_some]
   rw [jA hx k q1 z1 (by omega) ht hc he h4]
   rfl
def b4:FE:=fun _ _=>none
theorem bK {X:Cx}{e:Expr}:DE X e b4:=.of (fun pins s σ H Q I h=>by
 obtain⟨ι,σd,g,d,g',G0,S0,h,p⟩:=h
 cases h)
@[simp] theorem Ih {σ:Sg}{g:G}:b4 σ g=none:=rfl
end L3
namespace L3
open PySem PySem.Spec PyProof.Rows L2
open Sem (wp)
open Builtin
end L3
namespace L3
open PySem PySem.Spec PyProof.Rows L2
end L3
namespace DK
open PySem PySem.Spec PyProof.Rows L2 L3 SeqAt
def d6 (s:Shared)(m:Nat)(u:Value):Prop:=∀(prog:Program) (w:World) (A:Around) (E:Value->Shared->Prop) (Q:Bool->Shared->Prop),Q true s->wpAny (model prog w) A (eqIsQuiet m u) Q E s
structure zh (A:Around)(s:Shared)(key:Value)(h:Int)(es:Array DictEntry)(t:Nat->Bool):Prop where
 eq:∀i e,es[i]? = some e->e.hash=h->EqAt A s e.key key (t i)
 hs:∀i e,es[i]? = some e->t i=true->e.hash=h
 qk:d6 s 8 key
 qe:∀e∈es,d6 s 8 e.key
 rf:∀e∈es,e.key=key->e.hash=h
 un:∀i j,i<es.size->j<es.size->t i=true->t j=true->i=j
 st:∀x tk,key = .str x tk->∀i e,es[i]? = some e->isExactStrKey e.key=true->e.key.isStr x=t i
section
variable {prog:Program}{w:World}{A:Around}{E:Value->Shared->Prop}{s:Shared}{d:Addr}{o:Obj}{es:Array DictEntry}{ep:Nat}{key:Value}{h:Int}{t:Nat->Bool}{Q:Option Nat->Shared->Prop}
theorem lu {stored:List Value}{Q:Bool->Shared->Prop}(hk:d6 s 8 key)(hst:∀v∈stored,d6 s 8 v)(q:Q false s):wpAny (model prog w) A (tableMayTell key stored) Q E s:=by
 unfold tableMayTell
 split
 . exact wpAny_pure q
 refine wpAny_bind (hk prog w _ _ _ ?_)
 simp only [Bool.not_true,Bool.false_eq_true,if_false]
 refine wpAny_bind (wpAny_forIn_list _ (fun rest r z=>z=s/\r=(none,()) /\ ∀v∈rest,d6 s 8 v) _ ?_ ?_ _ _ ⟨rfl,rfl,hst⟩)
 . rintro x rest r z ⟨rfl,rfl,hr⟩
   refine wpAny_bind (hr x List.mem_cons_self prog w _ _ _ ?_)
   simp only [Bool.not_true,Bool.false_eq_true,if_false]
   exact wpAny_pure ⟨rfl,rfl,fun v hv=>hr v (List.mem_cons_of_mem _ hv)⟩
 . rintro r z ⟨rfl,rfl,_⟩
   exact wpAny_pure q
theorem jh {i:Nat}:i∈placesWithHash es.size (fun i=>es[i]?.map (·.hash)) h ↔ ∃e,es[i]? = some e/\e.hash=h:=by
 unfold placesWithHash
 simp only [List.mem_filter,List.mem_range,beq_iff_eq,Option.map_eq_some_iff]
 constructor
 . rintro⟨_,e,a,b⟩;exact⟨e,a,b⟩
 . rintro⟨e,a,b⟩;exact⟨(Array.getElem?_eq_some_iff.mp a).1,e,a,b⟩
theorem qC:(placesWithHash es.size (fun i=>es[i]?.map (·.hash)) h).Nodup:=by
 unfold placesWithHash
 exact List.nodup_range.sublist List.filter_sublist
theorem mN (ho:s.heap.get? d=some o)(hd:o.data = .dict es ep)(K:zh A s key h es t)(hn:(∀i,i<es.size->t i=false)->Q none s)(hy:∀i,i<es.size->t i=true->Q (some i) s) :
  wpAny (model prog w) A (dictFind d key h) Q E s:=by
 have none_of:(∀i∈placesWithHash es.size (fun i=>es[i]?.map (·.hash)) h,t i=false)->Q none s:=fun z=>hn fun i hi=>by
  cases ht:t i with
  | false=>rfl
  | true =>
    have e1:=Array.getElem?_eq_getElem hi
    rw [z i (jh.mpr ⟨_,e1,K.hs i _ e1 ht⟩)] at ht;cases ht
 have gen:∀tells:Bool,tells=false->wpAny (model prog w) A (do
    let mut hit:Option Nat:=none
    for i in placesWithHash es.size (fun i=>es[i]?.map (·.hash)) h do
      if let some e:=es[i]? then
        if e.hash == h then
          let before <- dictEpoch d (keyPart key)
          let same <- eqBool e.key key
          if(<- dictEpoch d (keyPart key)) != before then unsupported "dict.changed-during-lookup"
          if same then
            if hit.isSome then unsupported "dict.find:order-among-keys-of-one-hash"
            rule "dict.find.hit"
            if((placesWithHash es.size (fun i=>es[i]?.map (·.hash)) h).filterMap fun i=>es[i]?.map (·.key)).length<2 then return some i
            hit:=some i
          else
            rule "dict.find.same-hash-other-key"
            if tells && !(0<=h&&h<32) then unsupported "dict.find:asked-again-or-not-hangs-on-the-table"
    return hit) Q E s:=fun tells htl=>by
  subst htl
  refine wpAny_bind (wpAny_forIn_list _ (fun rest (b:Option (Option Nat)×Option Nat) z=>z=s /\ ∃done,placesWithHash es.size (fun i=>es[i]?.map (·.hash)) h=done++rest/\b.1=none /\
    ((b.2=none /\ ∀i∈done,t i=false) \/ ∃i,b.2=some i/\i∈done/\i<es.size/\t i=true)) _ ?_ ?_ _ _ ⟨rfl,[],rfl,rfl,.inl ⟨rfl,fun i z=>by simp at z⟩⟩)
  . rintro x rest ⟨b1,hit⟩ z ⟨rfl,done,hp,rfl,hb⟩
    have hx:x∈placesWithHash es.size (fun i=>es[i]?.map (·.hash)) h:=by rw [hp];simp
    obtain⟨e,he,hh⟩:=jh.mp hx
    have hlt:x<es.size:=(Array.getElem?_eq_some_iff.mp he).1
    have hp2:placesWithHash es.size (fun i=>es[i]?.map (·.hash)) h=(done ++ [x])++rest:=by rw [hp];simp
    rw [he]
    dsimp only at hb ⊢
    rw [if_pos (by simpa using hh)]
    refine wpAny_bind (wpAny_dictEpoch ho hd (wpAny_bind (K.eq x e he hh prog w _ _ (wpAny_bind (wpAny_dictEpoch ho hd ?_)))))
    rw [if_neg (by simp)]
    cases ht:t x with
    | true =>
      have h0:hit=none:=by
        rcases hb with⟨h0,_⟩ | ⟨i,_,hi,hil,hti⟩
        . exact h0
        . have:=K.un i x hil hlt hti ht
          subst this
          have nd:=qC (es:=es) (h:=h)
          rw [hp,List.nodup_append] at nd
          exact absurd rfl (nd.2.2 i hi i List.mem_cons_self)
      subst h0
      simp only [if_true,Option.isSome_none,Bool.false_eq_true,if_false]
      try refine wpAny_bind (wpAny_pure ?_)
      refine wpAny_bind (wpAny_rule ?_)
      split
      . exact wpAny_pure (wpAny_pure (hy x hlt ht))
      . exact wpAny_pure ⟨rfl,done ++ [x],hp2,rfl,.inr ⟨x,rfl,by simp,hlt,ht⟩⟩
    | false =>
      simp only [Bool.false_eq_true,if_false,Bool.false_and]
      refine wpAny_bind (wpAny_rule ?_)
      refine wpAny_pure ⟨rfl,done ++ [x],hp2,rfl,?_⟩
      rcases hb with⟨h0,hz⟩ | ⟨i,h1,hi,hil,hti⟩
      . exact .inl ⟨h0,fun i hi=>by
          rcases List.mem_append.mp hi with hi | hi
          . exact hz i hi
          . simp at hi;subst hi;exact ht⟩
      . exact .inr ⟨i,h1,List.mem_append.mpr (.inl hi),hil,hti⟩
  . rintro⟨b1,hit⟩ z ⟨rfl,done,hp,rfl,hb⟩
    dsimp only at hb ⊢
    refine wpAny_pure ?_
    rcases hb with⟨rfl,hz⟩ | ⟨i,rfl,_,hil,hti⟩
    . exact none_of (by rw [hp];simpa using hz)
    . exact hy i hil hti
 have plain:wpAny (model prog w) A (dictWalkPlain d key h es (placesWithHash es.size (fun i=>es[i]?.map (·.hash)) h)) Q E s:=by
  unfold dictWalkPlain
  refine wpAny_bind (wpAny_forIn_list _ (fun rest b z=>z=s /\ ∃done,placesWithHash es.size (fun i=>es[i]?.map (·.hash)) h=done++rest/\b=(none,()) /\ ∀i∈done,t i=false) _ ?_ ?_ _ _ ⟨rfl,[],rfl,rfl,fun i z=>by simp at z⟩)
  . rintro x rest b z ⟨rfl,done,hp,rfl,hb⟩
    have hx:x∈placesWithHash es.size (fun i=>es[i]?.map (·.hash)) h:=by rw [hp];simp
    obtain⟨e,he,hh⟩:=jh.mp hx
    have hlt:x<es.size:=(Array.getElem?_eq_some_iff.mp he).1
    rw [he]
    dsimp only
    rw [if_pos (by simpa using hh)]
    refine wpAny_bind (wpAny_dictEpoch ho hd (wpAny_bind (K.eq x e he hh prog w _ _ (wpAny_bind (wpAny_dictEpoch ho hd ?_)))))
    rw [if_neg (by simp)]
    cases ht:t x with
    | true =>
      simp only [if_true]
      refine wpAny_bind (wpAny_rule ?_)
      exact wpAny_pure (wpAny_pure (hy x hlt ht))
    | false =>
      simp only [Bool.false_eq_true,if_false]
      refine wpAny_bind (wpAny_rule ?_)
      refine wpAny_pure ⟨rfl,done ++ [x],by rw [hp];simp,rfl,fun i hi=>?_⟩
      rcases List.mem_append.mp hi with hi | hi
      . exact hb i hi
      . simp at hi;subst hi;exact ht
  . rintro b z ⟨rfl,done,hp,rfl,hb⟩
    exact wpAny_pure (none_of (by rw [hp];simpa using hb))
 have keys:∀v∈(placesWithHash es.size (fun i=>es[i]?.map (·.hash)) h).filterMap (fun i=>es[i]?.map (·.key)),d6 s 8 v:=fun v hv=>by
  obtain⟨i,_,hi⟩:=List.mem_filterMap.mp hv
  obtain⟨e,he,rfl⟩:=Option.map_eq_some_iff.mp hi
  exact K.qe e (Array.mem_of_getElem? he)
 unfold dictFind
 refine wpAny_holding ?_
 refine wpAny_bind (wpAny_dictEntries ho hd ?_)
 cases key with
 | str x tk =>
  refine wpAny_ite_split (fun hall=>?_) (fun _=>?_)
  . unfold foundByValue
    have ft:∀i e,es[i]? = some e->e.key.isStr x=t i:=fun i e he=>K.st x tk rfl i e he (Array.all_eq_true_iff_forall_mem.mp hall e (Array.mem_of_getElem? he))
    cases hf:es.findIdx? (·.key.isStr x) with
    | none =>
      refine wpAny_pure (hn fun i hi=>?_)
      rw [<- ft i _ (Array.getElem?_eq_getElem hi)]
      simpa using (Array.findIdx?_eq_none_iff.mp hf) es[i] (Array.getElem_mem hi)
    | some i =>
      obtain⟨hi,h1,_⟩:=Array.findIdx?_eq_some_iff_getElem.mp hf
      have e1:=Array.getElem?_eq_getElem hi
      rw [ft i _ e1] at h1
      dsimp only
      rw [e1]
      refine wpAny_bind (wpAny_dictEpoch ho hd (wpAny_bind (K.eq i _ e1 (K.hs i _ e1 h1) prog w _ _ (wpAny_bind (wpAny_dictEpoch ho hd ?_)))))
      refine wpAny_ite_split (fun z=>by simp at z) (fun _=>?_)
      rw [h1]
      exact wpAny_bind (wpAny_rule (wpAny_pure (hy i hi h1)))
  . refine wpAny_ite_split (fun _=>plain) (fun _=>?_)
    refine wpAny_ite_split (fun _=>wpAny_bind (wpAny_pure ?_)) (fun _=>wpAny_bind (lu K.qk keys ?_)) <;>
      exact wpAny_ite_split (fun z=>by simp at z) (fun _=>gen false rfl)
 | ref a =>
  refine wpAny_ite_split (fun z=>by simp [carriedByValue] at z) (fun _=>?_)
  refine wpAny_ite_split (fun z=>?_) (fun _=>?_)
  . rw [<- Array.any_toList,List.any_eq_true] at z
    obtain⟨e,he,hc⟩:=z
    simp only [Bool.and_eq_true,beq_iff_eq,bne_iff_ne,ne_eq] at hc
    exact absurd (K.rf e (Array.mem_toList_iff.mp he) hc.1) hc.2
  . refine wpAny_ite_split (fun _=>wpAny_bind (wpAny_pure ?_)) (fun _=>wpAny_bind (lu K.qk keys ?_)) <;>
      exact wpAny_ite_split (fun z=>by simp at z) (fun _=>gen false rfl)
 | _ =>
  refine wpAny_ite_split (fun _=>plain) (fun _=>?_)
  refine wpAny_ite_split (fun _=>wpAny_bind (wpAny_pure ?_)) (fun _=>wpAny_bind (lu K.qk keys ?_)) <;>
    exact wpAny_ite_split (fun z=>by simp at z) (fun _=>gen false rfl)
end
section
variable {X:Cx}{pins:List (Addr×Obj)}{σ:L2.St}{H:Hp}{ι:Ix}{prog:Program}{E:Value->Shared->Prop}
mutual
theorem mF:∀(d:D) {n:Nat} {s:Shared} {A:Around} {x:V} {u:Value} {Q:Int->Shared->Prop},Inv X pins σ H s->bf n d=true->Rel X.kw H ι d x->RelV x u->A.units+n<cLine ->
  (∀tk,Q (hD X.w d) { s with toks:=tk })->wpAny (model prog X.w) A (pyHash u) Q E s
 | .non,n,s,A,x,u,Q,I,k,r,ru,hu,q=>by
  simp only [Rel] at r;subst r;cases ru
  simp only [hD] at q
  exact PySem.W.pyHash_slot (T:="NoneType") rfl F.slot_NoneType_hash F.entry_NoneType_hash (F.args_NoneType_hash_1 _) (beq_builtin_none _) (.inr (by omega)) (wpAny_bind (wpAny_pure (wpAny_bind (wpAny_mkInt (wpAny_pure ⟨_,_,rfl,q _⟩)))))
 | .int i,n,s,A,x,u,Q,I,k,r,ru,hu,q=>by
  simp only [Rel] at r;subst r;obtain⟨t,rfl⟩:=ru
  simp only [hD] at q
  exact wpAny_pyHash_int (q _)
 | .str y,n,s,A,x,u,Q,I,k,r,ru,hu,q=>by
  simp only [Rel] at r;subst r;obtain⟨t,rfl⟩:=ru
  simp only [hD] at q
  exact wpAny_pyHash_str (q _)
 | .tup xs,n+1,s,A,x,u,Q,I,k,r,ru,hu,q=>by
  simp only [Rel] at r
  obtain⟨a,vs,rfl,hq,hr⟩:=r
  cases ru
  obtain⟨its,rits,⟨o,h1,h2,m,h3⟩,_⟩:=I.tuple hq.sq
  simp only [hD] at q
  simp only [bf] at k
  refine PySem.W.pyHash_slot (T:="tuple") ⟨o,h1,h2⟩ F.slot_tuple_hash F.entry_tuple_hash (F.args_tuple_hash_1 _) (beq_builtin_none _) (.inr (by omega)) ?_
  show wpAny _ _ (Builtin.Tuple.tupleItemsOf (.ref a) >>= _) _ _ s
  refine wpAny_bind (wpAny_tupleItemsOf h1 h3 (wpAny_bind ?_))
  rw [<- Array.forIn_toList]
  refine sM xs (acc:=#[]) I k hr rits (by rw [in1_units];omega) fun tk b hb=>?_
  show wpAny _ _ (retInt (Builtin.Tuple.tupleHashOf b.toList)) _ _ _
  rw [hb]
  exact wpAny_bind (wpAny_mkInt (wpAny_pure ⟨_,_,rfl,q _⟩))
 | .tup xs,0,s,A,x,u,Q,I,k,r,ru,hu,q=>by simp [bf] at k
 | .bl _,n,s,A,x,u,Q,I,k,r,ru,hu,q=>by simp [bf] at k
 | .lst _,n,s,A,x,u,Q,I,k,r,ru,hu,q=>by simp [bf] at k
 | .edc,n,s,A,x,u,Q,I,k,r,ru,hu,q=>by simp [bf] at k
 | .ref _,n,s,A,x,u,Q,I,k,r,ru,hu,q=>by simp [bf] at k
 | .aI _,n,s,A,x,u,Q,I,k,r,ru,hu,q=>by simp [bf] at k
 | .fn _,n,s,A,x,u,Q,I,k,r,ru,hu,q=>by simp [bf] at k
theorem sM:∀(ds:List D) {n:Nat} {s:Shared} {A:Around} {vs:List V} {us:List Value} {acc:Array Int} {Q:Array Int->Shared->Prop},Inv X pins σ H s->cJ n ds=true->ag X.kw H ι ds vs->Vals vs us->A.units+n<cLine ->
  (∀tk b,b.toList=acc.toList++uR X.w ds->Q b { s with toks:=tk }) ->
  wpAny (model prog X.w) A (forIn us acc fun x r=>do let h <- pyHash x;pure PUnit.unit;pure (ForInStep.yield (r.push h))) Q E s
 | [],n,s,A,vs,us,acc,Q,I,k,r,ru,hu,q=>by
  simp only [ag] at r;subst r;cases ru
  exact wpAny_pure (q s.toks acc (by simp [uR]))
 | d::ds,n,s,A,vs,us,acc,Q,I,k,r,ru,hu,q=>by
  simp only [ag] at r
  obtain⟨v,vr,rfl,hv,hr⟩:=r
  simp only [cJ,Bool.and_eq_true] at k
  cases ru with
  | cons r0 rr =>
   rw [List.forIn_cons]
   refine wpAny_bind (wpAny_bind (mF d I k.1 hv r0 hu fun tk=>wpAny_bind (wpAny_pure (wpAny_pure ?_))))
   exact sM ds (I.tok tk) k.2 hr rr hu fun tk' b hb=>q tk' b (by simp [hb,uR])
end
mutual
theorem m8:∀(d:D) {n m:Nat} {s:Shared} {x:V} {u:Value},Inv X pins σ H s->bf n d=true->n<=m->Rel X.kw H ι d x->RelV x u->d6 s m u
 | .non,n,m,s,x,u,I,k,hm,r,ru=>by
  simp only [Rel] at r;subst r;cases ru
  intro prog w A E Q q;unfold eqIsQuiet;exact wpAny_pure q
 | .int i,n,m,s,x,u,I,k,hm,r,ru=>by
  simp only [Rel] at r;subst r;obtain⟨t,rfl⟩:=ru
  intro prog w A E Q q;unfold eqIsQuiet;exact wpAny_pure q
 | .str y,n,m,s,x,u,I,k,hm,r,ru=>by
  simp only [Rel] at r;subst r;obtain⟨t,rfl⟩:=ru
  intro prog w A E Q q;unfold eqIsQuiet;exact wpAny_pure q
 | .tup xs,n+1,m,s,x,u,I,k,hm,r,ru=>by
  simp only [Rel] at r
  obtain⟨a,vs,rfl,hq,hr⟩:=r
  cases ru
  obtain⟨its,rits,⟨o,h1,h2,z,h3⟩,_⟩:=I.tuple hq.sq
  simp only [bf] at k
  intro prog w A E Q q
  have hT:s.TypeIs (.ref a) "tuple":=⟨o,h1,h2⟩
  obtain⟨m,rfl⟩:∃j,m=j+1:=⟨m-1,by omega⟩
  unfold eqIsQuiet
  refine wpAny_bind (wpAny_specialOf hT F.slot_tuple_eq.lookup ?_)
  show wpAny _ _ (isInstance (.ref a) (.type "tuple") >>= _) _ _ s
  refine wpAny_bind (wpAny_isInstance hT isSubtype_tuple_tuple ?_)
  simp only [Bool.not_true,Bool.false_eq_true,if_false]
  refine wpAny_bind (wpAny_seqItems h1 h3 (wpAny_bind ?_))
  show wpAny _ _ (forIn its.toArray _ _) _ _ s
  rw [<- Array.forIn_toList]
  have hqs:=qT xs (m:=m) I k (by omega) hr rits
  refine wpAny_forIn_list _ (fun rest r s'=>r.1=none/\s'=s /\ ∀v∈rest,d6 s m v) _ ?_ ?_ _ _ ⟨rfl,rfl,hqs⟩
  . rintro v rest r s' ⟨hr,rfl,hall⟩
    refine wpAny_bind (hall v List.mem_cons_self prog w _ _ _ ?_)
    simp only [Bool.not_true,Bool.false_eq_true,if_false]
    exact wpAny_pure ⟨rfl,rfl,fun u hu'=>hall u (List.mem_cons_of_mem _ hu')⟩
  . rintro⟨r1,r2⟩ s' ⟨hr,rfl,_⟩
    simp only at hr
    subst hr
    exact wpAny_pure q
 | .tup xs,0,m,s,x,u,I,k,hm,r,ru=>by simp [bf] at k
 | .bl _,n,m,s,x,u,I,k,hm,r,ru=>by simp [bf] at k
 | .lst _,n,m,s,x,u,I,k,hm,r,ru=>by simp [bf] at k
 | .edc,n,m,s,x,u,I,k,hm,r,ru=>by simp [bf] at k
 | .ref _,n,m,s,x,u,I,k,hm,r,ru=>by simp [bf] at k
 | .aI _,n,m,s,x,u,I,k,hm,r,ru=>by simp [bf] at k
 | .fn _,n,m,s,x,u,I,k,hm,r,ru=>by simp [bf] at k
theorem qT:∀(ds:List D) {n m:Nat} {s:Shared} {vs:List V} {us:List Value},Inv X pins σ H s->cJ n ds=true->n<=m->ag X.kw H ι ds vs->Vals vs us->∀v∈us,d6 s m v
 | [],n,m,s,vs,us,I,k,hm,r,ru=>by
  simp only [ag] at r;subst r;cases ru
  intro v hv;simp at hv
 | d::ds,n,m,s,vs,us,I,k,hm,r,ru=>by
  simp only [ag] at r
  obtain⟨v,vr,rfl,hv,hr⟩:=r
  simp only [cJ,Bool.and_eq_true] at k
  cases ru with
  | cons r0 rr =>
   intro z hz
   rcases List.mem_cons.mp hz with rfl | hz
   . exact m8 d I k.1 hm hv r0
   . exact qT ds I k.2 hm hr rr z hz
end
end
mutual
theorem h_:∀(d:D) {n:Nat},bf n d=true->flat d=true/\dep d<=n
 | .non,n,h=>⟨rfl,Nat.zero_le _⟩
 | .int _,n,h=>⟨rfl,Nat.zero_le _⟩
 | .str _,n,h=>⟨rfl,Nat.zero_le _⟩
 | .tup xs,n+1,h=>by
  simp only [bf] at h
  obtain⟨a,b⟩:=nX xs h
  exact⟨a,by simp only [dep];omega⟩
 | .tup xs,0,h=>by simp [bf] at h
 | .bl _,n,h=>by simp [bf] at h
 | .lst _,n,h=>by simp [bf] at h
 | .edc,n,h=>by simp [bf] at h
 | .ref _,n,h=>by simp [bf] at h
 | .aI _,n,h=>by simp [bf] at h
 | .fn _,n,h=>by simp [bf] at h
theorem nX:∀(ds:List D) {n:Nat},cJ n ds=true->aS ds=true/\bR ds<=n
 | [],n,h=>⟨rfl,Nat.zero_le _⟩
 | d::ds,n,h=>by
  simp only [cJ,Bool.and_eq_true] at h
  obtain⟨a,b⟩:=h_ d h.1
  obtain⟨a',b'⟩:=nX ds h.2
  exact⟨by simp [aS,a,a'],by simp only [bR];omega⟩
end
mutual
theorem g_:∀(d e:D) {n m:Nat},bf n d=true->bf m e=true->(aB d e=true ↔ d=e)
 | .non,e,n,m,h,k=>by cases e<;>simp_all [bf,aB]
 | .int _,e,n,m,h,k=>by cases e<;>simp_all [bf,aB]
 | .str _,e,n,m,h,k=>by cases e<;>simp_all [bf,aB]
 | .tup xs,e,n+1,m,h,k=>by
  cases e with
  | tup ys =>
   cases m with
   | zero=>simp [bf] at k
   | succ m =>
    simp only [bf] at h k
    simp only [aB,D.tup.injEq]
    exact r_ xs ys h k
  | _=>simp_all [bf,aB]
 | .tup xs,e,0,m,h,k=>by simp [bf] at h
 | .bl _,e,n,m,h,k=>by simp [bf] at h
 | .lst _,e,n,m,h,k=>by simp [bf] at h
 | .edc,e,n,m,h,k=>by simp [bf] at h
 | .ref _,e,n,m,h,k=>by simp [bf] at h
 | .aI _,e,n,m,h,k=>by simp [bf] at h
 | .fn _,e,n,m,h,k=>by simp [bf] at h
theorem r_:∀(ds es:List D) {n m:Nat},cJ n ds=true->cJ m es=true->(bY ds es=true ↔ ds=es)
 | [],es,n,m,h,k=>by cases es<;>simp [bY]
 | d::ds,[],n,m,h,k=>by simp [bY]
 | d::ds,e::es,n,m,h,k=>by
  simp only [cJ,Bool.and_eq_true] at h k
  simp only [bY,Bool.and_eq_true,List.cons.injEq,g_ d e h.1 k.1,r_ ds es h.2 k.2]
end
end DK
namespace L3
def aV:List D->D->Option D
 | k::v::r,key=>if aB k key=true then some v else aV r key
 | _,_=>none
def bD:List D->D->D->List D
 | k::v::r,key,val=>if aB k key=true then k::val::r else k::v::bD r key val
 | _,key,val=>[key,val]
def tq:List D->D->Nat->Bool
 | k::_::_,key,0=>aB k key
 | _::_::r,key,i+1=>tq r key i
 | _,_,_=>false
end L3
namespace DK
open PySem PySem.Spec PyProof.Rows L2 L3 SeqAt
inductive Ent (K:KW)(H:Hp)(ι:Ix):List D->List DictEntry->Prop
 | nil:Ent K H ι [] []
 | cons {k v:D} {kv vv:V} {r:List D} {e:DictEntry} {es:List DictEntry}:bf 6 k=true->e.hash=hD K.w k->Rel K H ι k kv->RelV kv e.key->Rel K H ι v vv->RelV vv e.val->Ent K H ι r es->Ent K H ι (k::v::r) (e::es)
theorem Ent.of {K H ι}:∀{es:List DictEntry} {xs:List D} {vs:List V},Vals vs (gG es)->gQ K.w xs es->ag K H ι xs vs->Ent K H ι xs es
 | [],xs,vs,rv,h,r=>by cases h;exact .nil
 | e::es,xs,vs,rv,h,r=>by
  cases h with
  | cons h1 h2 h3 =>
   simp only [ag] at r
   obtain⟨a,ar,rfl,ha,b,br,rfl,hb,hr⟩:=r
   cases rv with
   | cons r1 rv=>cases rv with
    | cons r2 rv=>exact .cons h1 h2 ha r1 hb r2 (Ent.of rv h3 hr)
theorem Ent.out {K H ι}:∀{es:List DictEntry} {xs:List D},Ent K H ι xs es->gQ K.w xs es /\ ∃vs,Vals vs (gG es)/\ag K H ι xs vs
 | [],xs,h=>by cases h;exact⟨.nil,[],.nil,by simp [ag]⟩
 | e::es,xs,h=>by
  cases h with
  | @cons k v kv vv r _ _ h1 h2 h3 h4 h5 h6 h7 =>
   obtain⟨a,vs,b,c⟩:=h7.out
   refine⟨.cons h1 h2 a,kv::vv::vs,.cons h4 (.cons h6 b),?_⟩
   simp only [ag]
   exact⟨kv,_,rfl,h3,vv,_,rfl,h5,c⟩
theorem Ent.at {K H ι}:∀{es:List DictEntry} {xs:List D} {i:Nat} {e:DictEntry},Ent K H ι xs es->es[i]? = some e->∃k kv,bf 6 k=true/\(aO xs)[i]? = some k/\e.hash=hD K.w k/\Rel K H ι k kv/\RelV kv e.key /\ ∀key,tq xs key i=aB k key
 | [],xs,i,e,h,q=>by simp at q
 | e0::es,xs,i,e,h,q=>by
  cases h with
  | cons h1 h2 h3 h4 h5 h6 h7 =>
   cases i with
   | zero=>simp at q;subst q;exact⟨_,_,h1,rfl,h2,h3,h4,fun _=>rfl⟩
   | succ i =>
    obtain⟨k,kv,a,b,c,d,e',f⟩:=h7.at (i:=i) (by simpa using q)
    exact⟨k,kv,a,by simpa [aO] using b,c,d,e',fun key=>f key⟩
theorem Ent.len {K H ι}:∀{es:List DictEntry} {xs:List D},Ent K H ι xs es->(aO xs).length=es.length
 | [],xs,h=>by cases h;rfl
 | e::es,xs,h=>by
  cases h with
  | cons h1 h2 h3 h4 h5 h6 h7=>simp [aO,h7.len]
theorem Ent.none_ {K H ι}:∀{es:List DictEntry} {xs:List D} {key:D},Ent K H ι xs es->(∀i,i<es.length->tq xs key i=false)->aV xs key=none /\ ∀v,bD xs key v=xs ++ [key,v]
 | [],xs,key,h,q=>by cases h;exact⟨rfl,fun _=>rfl⟩
 | e::es,xs,key,h,q=>by
  cases h with
  | cons h1 h2 h3 h4 h5 h6 h7 =>
   have q0:=q 0 (by simp)
   simp only [tq] at q0
   obtain⟨a,b⟩:=h7.none_ (key:=key) fun i hi=>by have:=q (i+1) (by simpa using hi);simpa [tq] using this
   exact⟨by simp [aV,q0,a],fun v=>by simp [bD,q0,b]⟩
theorem Ent.oz {K H ι}{key:D}:∀{es:List DictEntry} {xs:List D} {i:Nat},Ent K H ι xs es->i<es.length->tq xs key i=true->(∀j,j<es.length->tq xs key j=true->j=i) ->
  ∃e v vv,es[i]? = some e/\aV xs key=some v/\Rel K H ι v vv/\RelV vv e.val/\aO (bD xs key v)=aO xs /\
   ∀(w:D) (wv:V) (u:Value),Rel K H ι w wv->RelV wv u->Ent K H ι (bD xs key w) (es.modify i fun e=>{ e with val:=u })/\aO (bD xs key w)=aO xs
 | [],xs,i,h,hi,q,un=>by simp at hi
 | e0::es,xs,i,h,hi,q,un=>by
  cases h with
  | @cons k v kv vv r _ _ h1 h2 h3 h4 h5 h6 h7 =>
   cases i with
   | zero =>
    simp only [tq] at q
    refine⟨e0,v,vv,rfl,by simp [aV,q],h5,h6,by simp [bD,q,aO],fun w wv u rw_ ru=>⟨?_,by simp [bD,q,aO]⟩⟩
    simp only [bD,q,if_true,List.modify_zero_cons]
    exact .cons h1 h2 h3 h4 rw_ ru h7
   | succ i =>
    have q0:aB k key=false:=by
     cases hk:aB k key with
     | false=>rfl
     | true=>exact absurd (un 0 (by simp) (by simpa [tq] using hk)) (by omega)
    obtain⟨e,v',vv',a,b,c,d,f,g⟩:=h7.oz (i:=i) (by simpa using hi) (by simpa [tq] using q) fun j hj z=>by
     have:=un (j+1) (by simpa using hj) (by simpa [tq] using z)
     omega
    refine⟨e,v',vv',by simpa using a,by simp [aV,q0,b],c,d,by simp [bD,q0,aO,f],fun w wv u rw_ ru=>?_⟩
    obtain⟨g1,g2⟩:=g w wv u rw_ ru
    simp only [bD,q0,Bool.false_eq_true,if_false,List.modify_succ_cons]
    exact⟨.cons h1 h2 h3 h4 h5 h6 g1,by simp [aO,g2]⟩
theorem Ent.push {K H ι}{k v:D}{kv vv:V}{e:DictEntry}(h1:bf 6 k=true)(h2:e.hash=hD K.w k)(h3:Rel K H ι k kv)(h4:RelV kv e.key)(h5:Rel K H ι v vv)(h6:RelV vv e.val) :
  ∀{es:List DictEntry} {xs:List D},Ent K H ι xs es->Ent K H ι (xs ++ [k,v]) (es ++ [e])/\aO (xs ++ [k,v])=aO xs ++ [k]
 | [],xs,h=>by cases h;exact⟨.cons h1 h2 h3 h4 h5 h6 .nil,rfl⟩
 | e0::es,xs,h=>by
  cases h with
  | cons a1 a2 a3 a4 a5 a6 a7 =>
   obtain⟨b1,b2⟩:=Ent.push h1 h2 h3 h4 h5 h6 a7
   exact⟨.cons a1 a2 a3 a4 a5 a6 b1,by simp [aO,b2]⟩
section
variable {X:Cx}{pins:List (Addr×Obj)}{σ:L2.St}{H:Hp}{ι:Ix}{s:Shared}
theorem lT (I:Inv X pins σ H s){A:Around}{d e:D}{x y:V}{u v:Value}(fd:flat d=true)(fe:flat e=true)(rd:Rel X.kw H ι d x)(re:Rel X.kw H ι e y)(ru:RelV x u)(rv:RelV y v)(hu:A.units+dep d<cLine):EqAt A s u v (aB d e):=by
 refine lP (pv I d e (A:=A) fd fe rd re ru rv hu) (fun euv=>?_) (fun b t ef=>Rel.sJ rd (by rw [ef] at ru;exact ru))
 subst euv
 have exy:=ru.inj rv
 subst exy
 have ede:=Rel.inj I d e fd fe rd re
 subst ede
 exact ic d fd
theorem iH (I:Inv X pins σ H s){A:Around}(hu:A.units+8<cLine){xs:List D}{es:List DictEntry}(en:Ent X.kw H ι xs es)(nd:(aO xs).Nodup){key:D}{x:V}{u:Value}(hk:bf 6 key=true)(r:Rel X.kw H ι key x)(ru:RelV x u) :
  zh A s u (hD X.w key) es.toArray (tq xs key) where
 eq:=fun i e he hh=>by
  obtain⟨k,kv,a,b,c,d,f,g⟩:=en.at (i:=i) (by simpa using he)
  rw [g key]
  obtain⟨f1,f2⟩:=h_ k a
  exact lT I f1 (h_ key hk).1 d r f ru (by omega)
 hs:=fun i e he ht=>by
  obtain⟨k,kv,a,b,c,d,f,g⟩:=en.at (i:=i) (by simpa using he)
  rw [g key] at ht
  rw [c,(g_ k key a hk).mp ht]
 qk:=m8 key I hk (by omega) r ru
 qe:=fun e he=>by
  obtain⟨i,hi⟩:=List.mem_iff_getElem?.mp (by simpa using he)
  obtain⟨k,kv,a,b,c,d,f,g⟩:=en.at hi
  exact m8 k I a (by omega) d f
 rf:=fun e he ek=>by
  obtain⟨i,hi⟩:=List.mem_iff_getElem?.mp (by simpa using he)
  obtain⟨k,kv,a,b,c,d,f,g⟩:=en.at hi
  rw [ek] at f
  have:=f.inj ru
  subst this
  rw [c,Rel.inj I k key (h_ k a).1 (h_ key hk).1 d r]
 un:=fun i j hi hj ti tj=>by
  obtain⟨e,he⟩:∃e,es[i]? = some e:=⟨_,List.getElem?_eq_getElem (by simpa using hi)⟩
  obtain⟨e',he'⟩:∃e,es[j]? = some e:=⟨_,List.getElem?_eq_getElem (by simpa using hj)⟩
  obtain⟨k,kv,a,b,c,d,f,g⟩:=en.at he
  obtain⟨k',kv',a',b',c',d',f',g'⟩:=en.at he'
  rw [g key] at ti
  rw [g' key] at tj
  rw [(g_ k key a hk).mp ti] at b
  rw [(g_ k' key a' hk).mp tj] at b'
  exact(List.getElem?_inj (List.getElem?_eq_some_iff.mp b).1 nd).mp (b.trans b'.symm)
 st:=fun y tk e0 i e he hx=>by
  subst e0
  obtain⟨k,kv,a,b,c,d,f,g⟩:=en.at (i:=i) (by simpa using he)
  rw [g key]
  have kx:key = .str y:=by
   cases key with
   | str z=>simp only [Rel] at r;subst r;obtain⟨t,q⟩:=ru;cases q;rfl
   | non=>simp only [Rel] at r;subst r;cases ru
   | int z=>simp only [Rel] at r;subst r;obtain⟨t,q⟩:=ru;cases q
   | tup z=>simp only [Rel] at r;obtain⟨_,_,rfl,_⟩:=r;cases ru
   | _=>simp [bf] at hk
  subst kx
  cases k with
  | str z =>
   simp only [Rel] at d;subst d;obtain⟨t,q⟩:=f
   rw [q]
   simp only [Value.isStr,aB]
  | non=>simp only [Rel] at d;subst d;rw [f] at hx;cases hx
  | int z=>simp only [Rel] at d;subst d;obtain⟨t,q⟩:=f;rw [q] at hx;cases hx
  | tup z=>simp only [Rel] at d;obtain⟨_,_,rfl,_⟩:=d;rw [show e.key=_ from f] at hx;cases hx
  | _=>simp [bf] at a
end
section
variable {X:Cx}{pins:List (Addr×Obj)}{σ:L2.St}{H:Hp}{ι:Ix}{s:Shared}{A:Around}{E:Value->Shared->Prop}{a:Addr}{xs:List D}{es:List DictEntry}{c:Nat}{key:D}{x:V}{u:Value}
theorem gh (I:Inv X pins σ H s)(hH:H a=some (dO a es c)):s.heap.get? a=some { cls:=.type "dict",data:=.dict es.toArray (es.length-c) } :=
 (show cz X.prog X.w H s.heap a (dO a es c) from I.hok a _ hH).1
theorem oM (I:Inv X pins σ H s)(hH:H a=some (dO a es c)):∃ep,s.heap.get? a=some { cls:=.type "dict",data:=.dict es.toArray ep }:=⟨_,gh I hH⟩
theorem td (I:Inv X pins σ H s)(hH:H a=some (dO a es c)):s.TypeIs (.ref a) "dict":=let⟨_,h⟩:=oM I hH;⟨_,h,rfl⟩
theorem nW (I:Inv X pins σ H s)(hu:A.units+8<cLine)(hH:H a=some (dO a es c))(en:Ent X.kw H ι xs es)(nd:(aO xs).Nodup)(hk:bf 6 key=true)(r:Rel X.kw H ι key x)(ru:RelV x u){Q:Option Value->Shared->Prop}
   (hn:aV xs key=none->∀tk,Q none { s with toks:=tk }) (hs:∀v,aV xs key=some v->∀tk vv z,Rel X.kw H ι v vv->RelV vv z->Q (some z) { s with toks:=tk }):wpAny (model X.prog X.w) A (dictGet a u) Q E s:=by
 obtain⟨ep,ho⟩:=oM I hH
 unfold dictGet
 refine wpAny_holding (wpAny_bind (mF key I hk r ru (by omega) fun tk=>wpAny_bind (mN (s:={ s with toks:=tk }) ho rfl (iH (I.tok tk) hu en nd hk r ru) (fun z=>?_) (fun i hi ht=>?_))))
 . exact wpAny_pure (hn (en.none_ fun i hi=>z i (by simpa using hi)).1 tk)
 . have K:=iH (I.tok tk) hu en nd hk r ru (A:=A)
   obtain⟨e,v,vv,h1,h2,h3,h4,_⟩:=en.oz (key:=key) (by simpa using hi) ht fun j hj z=>(K.un i j hi (by simpa using hj) ht z).symm
   refine wpAny_bind (wpAny_dictEntries (s:={ s with toks:=tk }) ho rfl ?_)
   have:es.toArray[i]? = some e:=by simpa using h1
   rw [this]
   exact wpAny_pure (hs v h2 tk vv _ h3 h4)
theorem uO (I:Inv X pins σ H s)(hH:H a=some (dO a es c))(en:Ent X.kw H ι xs es)(nd:(aO xs).Nodup)(hk:bf 6 key=true)(r:Rel X.kw H ι key x)(ru:RelV x u){v:D}(hv:aV xs key=some v) :
   ∃vv z,Rel X.kw H ι v vv/\RelV vv z /\ ∀{A:Around} {E:Value->Shared->Prop} {Q:Option Value->Shared->Prop},A.units+8<cLine->(∀tk,Q (some z) { s with toks:=tk })->wpAny (model X.prog X.w) A (dictGet a u) Q E s:=by
 obtain⟨ep,ho⟩:=oM I hH
 have hex:∃i,i<es.length/\tq xs key i=true:=by
   refine Classical.byContradiction fun no=>?_
   have:=(en.none_ (key:=key) fun i hi=>by
    cases h:tq xs key i with
    | false=>rfl
    | true=>exact absurd ⟨i,hi,h⟩ no).1
   rw [hv] at this;cases this
 obtain⟨i,hi,ht⟩:=hex
 have un:∀j,j<es.length->tq xs key j=true->j=i:=fun j hj z=>by
   obtain⟨k,kv,a1,b1,_,_,_,g⟩:=en.at (List.getElem?_eq_getElem hi)
   obtain⟨k',kv',a2,b2,_,_,_,g'⟩:=en.at (List.getElem?_eq_getElem hj)
   rw [g] at ht
   rw [g'] at z
   rw [(g_ k key a1 hk).mp ht] at b1
   rw [(g_ k' key a2 hk).mp z] at b2
   exact(List.getElem?_inj (List.getElem?_eq_some_iff.mp b2).1 nd).mp (b2.trans b1.symm)
 obtain⟨e,v',vv,h1,h2,h3,h4,_⟩:=en.oz (key:=key) hi ht un
 rw [hv] at h2;cases h2
 refine⟨vv,e.val,h3,h4,fun {A E Q} hu q=>?_⟩
 unfold dictGet
 refine wpAny_holding (wpAny_bind (mF key I hk r ru (by omega) fun tk=>wpAny_bind (mN (s:={ s with toks:=tk }) ho rfl (iH (I.tok tk) hu en nd hk r ru) (fun z=>?_) (fun j hj tj=>?_))))
 . have:=z i (by simpa using hi);rw [ht] at this;cases this
 . have:=un j (by simpa using hj) tj
   subst this
   refine wpAny_bind (wpAny_dictEntries (s:={ s with toks:=tk }) ho rfl ?_)
   have:es.toArray[j]? = some e:=by simpa using h1
   rw [this]
   exact wpAny_pure (q tk)
theorem jI (I:Inv X pins σ H s)(hu:A.units+8<cLine)(hH:H a=some (dO a es c))(hcl:c<=es.length)(hz:es.length<=sizeLine)(en:Ent X.kw H ι xs es)(nd:(aO xs).Nodup)(hk:bf 6 key=true)(r:Rel X.kw H ι key x)(ru:RelV x u){v:D}{vv:V}{z:Value}(rv:Rel X.kw H ι v vv)(rz:RelV vv z){Q:Unit->Shared->Prop}
   (h:∀tk h' es',Ent X.kw H ι (bD xs key v) es'->(aO (bD xs key v)).Nodup->es'.length<=es.length+1->c<=es'.length->h'.get? a=some { cls:=.type "dict",data:=.dict es'.toArray (es'.length-c) }->Heap.SameBut a s.heap h'->Q () { s with heap:=h',toks:=tk }) :
   wpAny (model X.prog X.w) A (dictSet a u z) Q E s:=by
 have ho:=gh I hH
 unfold dictSet
 refine wpAny_holding (wpAny_bind (mF key I hk r ru (by omega) fun tk=>?_))
 unfold dictSetHashed
 refine wpAny_holding (wpAny_bind (mN (s:={ s with toks:=tk }) ho rfl (iH (I.tok tk) hu en nd hk r ru) (fun y=>?_) (fun i hi ht=>?_)))
 . obtain⟨_,ep2⟩:=en.none_ (key:=key) fun i hi=>y i (by simpa using hi)
   obtain⟨e1,e2⟩:=Ent.push (e:=⟨hD X.w key,u,z⟩) hk rfl r ru rv rz en
   refine wpAny_bind (wpAny_rule (wpAny_updateDictKeys (hz:=by simpa using hz) (s:={ s with toks:=tk }) ho rfl ?_))
   refine h tk _ (es ++ [⟨hD X.w key,u,z⟩]) (by rw [ep2];exact e1) ?_ (by simp) (by simp;omega) ?_ (Heap.SameBut.update ..)
   . rw [ep2,e2,List.nodup_append]
     refine⟨nd,by simp,fun k hk1 k' hk2=>?_⟩
     simp at hk2;subst hk2
     rintro rfl
     obtain⟨i,hi,e⟩:=List.mem_iff_getElem.mp hk1
     have hil:i<es.length:=by rw [<- en.len];exact hi
     obtain⟨k,kv,a1,b1,_,_,_,g⟩:=en.at (List.getElem?_eq_getElem hil)
     rw [List.getElem?_eq_getElem hi,e] at b1
     cases b1
     have:=y i (by simpa using hil)
     rw [g,(g_ _ _ hk hk).mpr rfl] at this
     cases this
   . have q:=Heap.get?_update_self (h:=s.heap) (Obj.mapDictKeys (·.push ⟨hD X.w key,u,z⟩)) ho rfl
     rw [q];simp [Obj.mapDictKeys];omega
 . have K:=iH (I.tok tk) hu en nd hk r ru (A:=A)
   obtain⟨e,v0,vv0,h1,h2,h3,h4,_,h5⟩:=en.oz (key:=key) (by simpa using hi) ht fun j hj y=>(K.un i j hi (by simpa using hj) ht y).symm
   obtain⟨h6,h7⟩:=h5 v vv z rv rz
   refine wpAny_bind (wpAny_rule (wpAny_bind (wpAny_updateDict (s:={ s with toks:=tk }) ho rfl ?_)))
   refine wpAny_point ?_
   refine h tk _ (es.modify i fun e=>{ e with val:=z }) h6 (by rw [h7];exact nd) (by simp) (by simpa using hcl) ?_ (Heap.SameBut.update ..)
   have q:=Heap.get?_update_self (h:=s.heap) (Obj.mapDict (·.modify i fun e=>{ e with val:=z })) ho rfl
   rw [q];simp [Obj.mapDict]
end
end DK
namespace L3
open PySem PySem.Spec PyProof.Rows L2 SeqAt DK
def aw (d1 d2:D)(g:G):Option (D×G):=match d1 with
 | .aI n=>(g[n]?).bind fun xs=>if bf 6 d2=true then(aV xs d2).map fun d=>(d,g) else none
 | d1=>iL d1 d2 g
section
variable {X:Cx}
theorem Ai (hu:X.A.units+64<cLine):jL X (cA X.kw aw):=by
 intro value slice pins s σ H x y v u Q I rx ry q hs
 obtain⟨ι,g,d1,d2,d,g',G0,r1,r2,q,p⟩:=q
 cases d1 with
 | aI n =>
  simp only [aw] at q
  obtain⟨xs,hx,q⟩:=bind_some q
  split at q
  . rename_i hk
    simp only [Rel] at r1
    obtain⟨a,rfl,ha⟩:=r1
    cases rx
    obtain⟨es,vs,c,hH,hkd,hcl,rv,hh,nd,sy,sz,rl⟩:=G0.jB hx ha
    have en:=Ent.of rv hh rl
    cases hv:aV xs d2 with
    | none=>rw [hv] at q;cases q
    | some dv =>
     rw [hv] at q;cases q
     obtain⟨vv,z,h1,h2,h3⟩:=uO I hH en nd hk r2 ry hv
     have hT:=td I hH
     refine subscriptTail_builtinR (x:=z) hT slot_dict_getitem.lookup ?_ hs
     unfold getItem
     refine wpAny_holding (wpAny_bind (wpAny_sequenceKey hT (by decide) ?_))
     refine wpAny_bind (wpAny_callSpecial?_slot (name:=Str.ofString "__getitem__") hT slot_dict_getitem (wpAny_call_entry slot_dict_getitem hT entry_dict_getitem ?_ (args_dict_getitem _ _)))
     show wpAny _ _ (dictGet a u >>= _) _ _ s
     refine wpAny_bind (h3 (by rw [in1_units];omega) fun tk=>?_)
     exact wpAny_pure ⟨z,rfl,wpAny_pure ⟨rfl,vv,H,I.tok tk,h2,p H ι vv Ext.refl G0 h1⟩⟩
  . cases q
 | _=>exact zX value slice pins s σ H x y v u Q I rx ry ⟨ι,g,_,d2,d,g',G0,r1,r2,q,p⟩ hs
theorem BZ {a b:Expr}{fa fb:FE}{pos:Pos}(hu:X.A.units+64<cLine)(ha:DE X a fa)(hb:DE X b fb)(hs:mJ b:=by exact fun _ _=>rfl):DE X (.Subscript a b pos) (aj aw fa fb):=.of (
 PE.imp (Gp (Ai hu) ha.un hb.un hs) fun σ H Q h=>lM h)
end
def wX (d1:D)(xs:List D):Option Bool:=if(flat d1&&aS xs&&decide (bR xs<=50))=true then some (xs.any fun y=>aB y d1) else none
def kJ (d1 d2:D)(g:G):Option Bool:=match d2 with
 | .aI n=>(g[n]?).bind fun xs=>if bf 6 d1=true then some (aV xs d1).isSome else none
 | d2=>(bZ d2 g).bind (wX d1)
def et (d1 d2:D)(g:G):Option (D×G):=(kJ d1 d2 g).map fun b=>(.bl b,g)
def cW (d1 d2:D)(g:G):Option (D×G):=(kJ d1 d2 g).map fun b=>(.bl (!b),g)
theorem wU {d1 d2:D}{g:G}{b:Bool}(h:kJ d1 d2 g=some b):(∃n,d2 = .aI n) \/ ∃xs,bZ d2 g=some xs/\wX d1 xs=some b:=by
 cases d2 with
 | aI n=>exact .inl ⟨n,rfl⟩
 | _=>simp only [kJ] at h;exact .inr (bind_some h)
section
variable {X:Cx}
theorem iy:∀{xs:List D} {i:Nat} {d:D},aS xs=true->xs[i]? = some d->flat d=true/\dep d<=bR xs
 | [],i,d,h,e=>by simp at e
 | x::xs,0,d,h,e=>by
  simp at e;subst e
  simp only [aS,Bool.and_eq_true] at h
  exact⟨h.1,by simp only [bR];omega⟩
 | x::xs,i+1,d,h,e=>by
  simp only [aS,Bool.and_eq_true] at h
  obtain⟨a,b⟩:=iy (i:=i) h.2 (by simpa using e)
  exact⟨a,by simp only [bR];omega⟩
theorem qS {pins:List (Addr×Obj)}{σ:L2.St}{H:Hp}{s:Shared}{ι:Ix}(I:Inv X pins σ H s){A:Around}{key:D}{x:V}{u:Value}(fk:flat key=true)(r:Rel X.kw H ι key x)(ru:RelV x u){n:Nat}(hu:A.units+n<cLine) :
   ∀{xs:List D} {vs:List V} {us:List Value},aS xs=true->bR xs<=n->ag X.kw H ι xs vs->Vals vs us->∃e:Value->Bool,(∀y,y∈us->EqAt A s y u (e y))/\us.any e=xs.any (fun y=>aB y key):=by
 classical
 intro xs vs us fx hn rl rv
 refine⟨fun y=>decide (∃d v,Rel X.kw H ι d v/\RelV v y/\flat d=true/\aB d key=true),fun y hy=>?_,?_⟩
 . obtain⟨i,hi,e⟩:=List.mem_iff_getElem.mp hy
   have hiv:i<vs.length:=by rw [rv.length];exact hi
   have hix:i<xs.length:=by rw [rl.length];exact hiv
   obtain⟨v,h1,h2⟩:=rl.get (List.getElem?_eq_getElem hix)
   obtain⟨z,h3,h4⟩:=rv.get h1
   rw [List.getElem?_eq_getElem hi,e] at h3
   cases h3
   obtain⟨f1,f2⟩:=iy fx (List.getElem?_eq_getElem hix)
   have key_:=lT I f1 fk h2 r h4 ru (A:=A) (by omega)
   have:decide (∃d v,Rel X.kw H ι d v/\RelV v y/\flat d=true/\aB d key=true)=aB xs[i] key:=by
    cases hq:aB xs[i] key with
    | true=>exact decide_eq_true ⟨_,_,h2,h4,f1,hq⟩
    | false =>
     refine decide_eq_false ?_
     rintro⟨d,v',a,b,c,e'⟩
     have:=b.inj h4
     subst this
     rw [Rel.inj I d _ c f1 a h2,hq] at e'
     cases e'
   show EqAt A s y u (decide _);rw [this];exact key_
 . induction xs generalizing vs us with
   | nil=>simp only [ag] at rl;subst rl;cases rv;rfl
   | cons d ds ih =>
    simp only [ag] at rl
    obtain⟨v,vr,rfl,h2,hr⟩:=rl
    cases rv with
    | cons r0 rr =>
     simp only [aS,Bool.and_eq_true] at fx
     simp only [bR] at hn
     rw [List.any_cons,List.any_cons,ih fx.2 (by omega) hr rr]
     congr 1
     cases hq:aB d key with
     | true=>exact decide_eq_true ⟨_,_,h2,r0,fx.1,hq⟩
     | false =>
      refine decide_eq_false ?_
      rintro⟨d',v',a,b,c,e'⟩
      have:=b.inj r0
      subst this
      rw [Rel.inj I d' _ c fx.1 a h2,hq] at e'
      cases e'
theorem sm (neg:Bool)(hu:X.A.units+64<cLine):bw X (compareOp (if neg then .NotIn else .In)) (cA X.kw fun d1 d2 g=>(kJ d1 d2 g).map fun b=>(.bl (if neg then !b else b),g)):=by
 intro pins s σ H x y v u Q I rx ry q
 obtain⟨ι,g,d1,d2,d,g',G0,r1,r2,q,p⟩:=q
 obtain⟨b,hb,q⟩:=Option.map_eq_some_iff.mp q
 cases q
 have fin:∀tk,EP X pins σ Q (.bool (if neg then !b else b)) { s with toks:=tk }:=fun tk=>⟨.bl _,H,I.tok tk,rfl,p H ι _ Ext.refl G0 (by simp [Rel])⟩
 rcases wU hb with⟨n,rfl⟩ | ⟨xs,hx,hb⟩
 . simp only [kJ] at hb
   obtain⟨xs,hx,hb⟩:=bind_some hb
   split at hb
   . rename_i hk
     cases hb
     simp only [Rel] at r2
     obtain⟨a,rfl,ha⟩:=r2
     cases ry
     obtain⟨es,vs,c,hH,hkd,hcl,rv,hh,nd,sy,sz,rl⟩:=G0.jB hx ha
     have en:=Ent.of rv hh rl
     have hT:=td I hH
     have core:∀{Q':Bool->Shared->Prop},(∀tk,Q' (aV xs d1).isSome { s with toks:=tk })->wpAny (model X.prog X.w) X.A (contains (.ref a) v) Q' X.xe s:=fun {Q'} fin=>by
       unfold contains
       refine wpAny_holding (wpAny_bind (wpAny_specialOf hT slot_dict_contains.lookup ?_))
       refine wpAny_ite_split (fun z=>by rw [beq_builtin_none] at z;cases z) (fun _=>?_)
       refine wpAny_bind (wpAny_callSpecialUnlessNone?_slot (name:=Str.ofString "__contains__") hT slot_dict_contains (wpAny_call_entry slot_dict_contains hT entry_dict_contains ?_ (args_dict_contains _ _)))
       show wpAny _ _ (dictGet a v >>= _) _ _ s
       refine wpAny_bind (nW I (by rw [in1_units];omega) hH en nd hk r1 rx (fun hn tk=>?_) (fun w hs tk vv z _ _=>?_))
       . rw [hn] at fin
         show wpAny _ _ (Builtin.Dict.pendingKey? a v >>= _) _ _ _
         exact wpAny_bind (wpAny_pendingKey_other sy (wpAny_pure ⟨_,rfl,wpAny_truthy_bool (fin tk)⟩))
       . rw [hs] at fin
         show wpAny _ _ (ret (.bool true)) _ _ _
         exact wpAny_pure ⟨_,rfl,wpAny_truthy_bool (fin tk)⟩
     cases neg with
     | false=>exact(show wpAny _ _ (do return Value.bool (<- contains (.ref a) v)) _ _ s from wpAny_bind (core fun tk=>wpAny_pure (fin tk)))
     | true=>exact(show wpAny _ _ (do return Value.bool (!(<- contains (.ref a) v))) _ _ s from wpAny_bind (core fun tk=>wpAny_pure (fin tk)))
   . cases hb
 . unfold wX at hb
   split at hb
   . rename_i z
     simp only [Bool.and_eq_true,decide_eq_true_eq] at z
     cases hb
     obtain⟨a,vs,rfl,hq,hr⟩:=gm G0 r2 hx
     cases ry
     rcases hq with hq | hq
     . obtain⟨its,rits,ht,_⟩:=I.list hq
       obtain⟨e,h1,h2⟩:=qS I (A:=X.A.in1) z.1.1 r1 rx (n:=50) (by rw [in1_units];omega) z.1.2 z.2 hr rits
       have fin:=fin s.toks
       rw [<- h2] at fin
       cases neg with
       | false=>exact in_listAt e ht.isList (fun y hy=>h1 y (by simpa using hy)) (by simpa using fin)
       | true=>exact notIn_listAt e ht.isList (fun y hy=>h1 y (by simpa using hy)) (by simpa using fin)
     . obtain⟨its,rits,ht,_⟩:=I.tuple hq
       obtain⟨e,h1,h2⟩:=qS I (A:=X.A.in1) z.1.1 r1 rx (n:=50) (by rw [in1_units];omega) z.1.2 z.2 hr rits
       have fin:=fin s.toks
       rw [<- h2] at fin
       cases neg with
       | false=>exact in_tupleAt e ht (fun y hy=>h1 y (by simpa using hy)) (by simpa using fin)
       | true=>exact notIn_tupleAt e ht (fun y hy=>h1 y (by simpa using hy)) (by simpa using fin)
   . cases hb
theorem Df (hu:X.A.units+64<cLine):bw X (compareOp .In) (cA X.kw et):=sm false hu
theorem vS (hu:X.A.units+64<cLine):bw X (compareOp .NotIn) (cA X.kw cW):=sm true hu
end
section
variable {X:Cx}{pins:List (Addr×Obj)}{σ:L2.St}{H:Hp}{ι:Ix}{s:Shared}{g:G}{a:Addr}{n:Nat}{xs:List D}{es:List DictEntry}{c:Nat}
theorem lz (I:Inv X pins σ H s)(hH:H a=some (dO a es c)){es':List DictEntry}{h':Heap}{tk:Nat}(hg:h'.get? a=some { cls:=.type "dict",data:=.dict es'.toArray (es'.length-c) })(sb:Heap.SameBut a s.heap h') :
  Inv X pins σ (upd H a (dO a es' c)) { s with heap:=h',toks:=tk }:=by
 refine I.write (x:=a) (e:=a) (o:=dO a es' c) (t':=tk) (by rw [hH];exact True.intro) (.inl rfl) (fun b u hb q=>?_) ⟨_,hg⟩ ⟨hg,⟨_,hg⟩,fun h1 h2 q k=>k _ q⟩
 rw [sb.2 b hb];exact q
theorem lx (G0:ay X.kw H ι g)(ha:cS ι n a true)(hkd:ι.kd n=c+1)(hH:H a=some (dO a es c)){xs':List D}{es':List DictEntry}(en:Ent X.kw H ι xs' es')(nd:(aO xs').Nodup)(sy:(a == sysModules)=false)(hcl:c<=es'.length)(sz:es'.length<=sizeLine) :
  ay X.kw (upd H a (dO a es' c)) ι (g.set n xs'):=by
 obtain⟨h1,vs,h2,h3⟩:=en.out
 exact G0.CB ha hH (by rw [hkd];exact .d c es' vs hcl h2 h1 nd sy sz) h3
end
def iu (xs:List D):Bool:=aF (xs.length / 2+1)
def fE (o i v:D)(g:G):Option G:=match o with
 | .aI n=>(g[n]?).bind fun xs=>if(bf 6 i&&iu xs)=true then some (g.set n (bD xs i v)) else none
 | o=>putD o i v g
inductive zA (K:KW)(o i v:V)(H:Hp)(Q:Hp->Prop):Prop
 | mk (ι:Ix) (g:G) (d1 d2 d3:D) (g':G) (h0:ay K H ι g) (h1:Rel K H ι d1 o) (h2:Rel K H ι d2 i) (h3:Rel K H ι d3 v) (h4:fE d1 d2 d3 g=some g') (h5:∀H' ι',Ext H ι H' ι'->ay K H' ι' g'->Q H'):zA K o i v H Q
theorem nr {K H ι}{xs:List D}{es:List DictEntry}(en:Ent K H ι xs es):xs.length=2*es.length:=by
 induction en with
 | nil=>rfl
 | cons _ _ _ _ _ _ _ ih=>simp [ih];omega
section
variable {X:Cx}
theorem AM (hu:X.A.units+64<cLine):x9 X (zA X.kw):=by
 intro pins s σ H o i v ov iv u Q I ro ri rv q
 obtain⟨ι,g,d1,d2,d3,g',G0,r1,r2,r3,q,p⟩:=q
 cases d1 with
 | aI n =>
  simp only [fE] at q
  obtain⟨xs,hx,q⟩:=bind_some q
  split at q
  . rename_i hk
    simp only [Bool.and_eq_true] at hk
    cases q
    simp only [Rel] at r1
    obtain⟨a,rfl,ha⟩:=r1
    cases ro
    obtain⟨es,vs,c,hH,hkd,hcl,rvs,hh,nd,sy,sz,rl⟩:=G0.jB hx ha
    have en:=Ent.of rvs hh rl
    have hT:=td I hH
    have hz:=aF.le hk.2
    rw [nr en] at hz
    unfold setItem
    refine wpAny_holding (wpAny_bind (wpAny_sequenceKey hT (by decide) ?_))
    refine wpAny_bind (wpAny_callSpecial?_slot (name:=Str.ofString "__setitem__") hT slot_dict_setitem (wpAny_call_entry slot_dict_setitem hT entry_dict_setitem ?_ (args_dict_setitem _ _ _)))
    show wpAny _ _ (Builtin.Dict.notOrdered "__setitem__" ⟨[.ref a,iv,u],[]⟩ >>= _) _ _ s
    refine wpAny_bind (wpAny_notOrdered_dict hT ?_)
    show wpAny _ _ (dictSet a iv u >>= _) _ _ s
    refine wpAny_bind (jI I (by rw [in1_units];omega) hH hcl sz en nd hk.1 r2 ri r3 rv fun tk h' es' e1 e2 e3 e0 e4 e5=>wpAny_pure ⟨.none,rfl,wpAny_pure ?_⟩)
    exact⟨_,lz I hH e4 e5,p _ ι (Ext.put ha hH) (lx G0 ha hkd hH e1 e2 sy e0 (by omega))⟩
  . cases q
 | ref n =>
  refine set_list pins s σ H o i v ov iv u Q I ro ri rv ?_
  simp only [fE,putD] at q
  cases d2 with
  | int k =>
    simp only [Rel] at r1 r2
    obtain⟨a,rfl,ha⟩:=r1
    subst r2
    dsimp only at q
    cases hx:g[n]? with
    | none=>rw [hx] at q;cases q
    | some xs =>
     rw [hx] at q
     dsimp only at q
     cases hj:gY xs.length k with
     | none=>rw [hj] at q;cases q
     | some j =>
      rw [hj] at q
      cases q
      obtain⟨vs,hv,hr⟩:=G0.at hx ha
      exact⟨a,vs,k,j,rfl,rfl,hv,by rw [<- hr.length];exact hj,p _ ι (Ext.put ha hv) (G0.put ha hv (ag.set r3 j hr))⟩
  | _=>cases q
 | _=>cases q
def dB (fo fi:FE):FG:=fun v σ g=>(fo σ g).bind fun r=>(fi σ r.2).bind fun q=>(fE r.1 q.1 v q.2).map fun g'=>(σ,g')
theorem rR {o i:Expr}{fo fi:FE}{pos:Pos}(hu:X.A.units+64<cLine)(ho:DE X o fo)(hi:DE X i fi)
  (ha:∀v,assign (.Subscript o i pos) X.env v=(do
   let ov <- holding [v] (eval o X.env)
   let iv <- holding [v,ov] (eval i X.env)
   standAt pos
   holding [v,ov,iv] (setItem ov iv v)
   release [v,ov,iv] []):=by intro _;rfl):DG X (.Subscript o i pos) (dB fo fi):=.of (PG.imp (Ct ho.un hi.un (AM hu) ha) fun v σ H Q h=>by
 obtain⟨ι,σd,g,d,σd',g',G0,S0,r,h,p⟩:=h
 obtain⟨⟨d1,g1⟩,h1,h⟩:=bind_some h
 obtain⟨⟨d2,g2⟩,h2,h⟩:=bind_some h
 refine tD.bind G0 S0 h1 fun H1 ι1 v1 e1 G1 S1 r1=>?_
 refine tD.bind G1 S1 h2 fun H2 ι2 v2 e2 G2 S2 r2=>?_
 obtain⟨g3,h3,h⟩:=Option.map_eq_some_iff.mp h
 cases h
 exact⟨ι2,g2,d1,d2,d,g',G2,Rel.ext e2 _ r1,r2,Rel.ext (e1.trans e2) _ r,h3,fun H' ι' e' G'=>p H' ι' σ ((e1.trans e2).trans e') G' (S2.ext e')⟩)
end
inductive Hr (K:KW)(isT:D->Bool)(m:D->List D->G->Option (D×G))(x:V)(xs:List V)(H:Hp)(Q:VK):Prop
 | mk (ι:Ix) (g:G) (d:D) (ds:List D) (d':D) (g':G) (h0:ay K H ι g) (h1:Rel K H ι d x) (h2:ag K H ι ds xs) (h3:isT d=true) (h4:m d ds g=some (d',g')) (h5:eh K H ι d' g' Q):Hr K isT m x xs H Q
structure MR (X:Cx)(T:String)(name:Str)(id:String)(isT:D->Bool)(m:D->List D->G->Option (D×G)):Prop where
 pa:PlainAttrs T
 slot:Slot T name id
 ty:typeOf (.builtin id)=pure (.type "method_descriptor")
 is:∀{pins:List (Addr×Obj)} {σ:L2.St} {H:Hp} {s:Shared} {ι:Ix} {g:G} {d:D} {x:V} {v:Value},Inv X pins σ H s->ay X.kw H ι g->Rel X.kw H ι d x->RelV x v->isT d=true->s.TypeIs v T /\ ∀a,v = .ref a->∃ob,s.heap.get? a=some ob/\ob.dict=none
 run:GV X id (Hr X.kw isT m)
def bX (isT:D->Bool)(m:D->List D->G->Option (D×G))(fo:FE)(fr:FA):FE:=fun σ g=>(fo σ g).bind fun r=>if isT r.1=true then(fr σ r.2).bind fun q=>m r.1 q.1 q.2 else none
section
variable {X:Cx}{T:String}{name:Str}{id:String}{isT:D->Bool}{m:D->List D->G->Option (D×G)}{o e:Expr}{es:List Expr}{fo:FE}{fr:FA}{apos cpos:Pos}
theorem ER (R:MR X T name id isT m)(ho:DE X o fo)(ha:DA X (e::es) fr)(hbase:attributeBase o name X.env (eval o X.env)=eval o X.env:=by rfl)
   (hfew:((backTo cpos (starEach (e::es) X.env)).all (fun x=>!x.1)&&(backToKw cpos (keywordEach [] X.env)).all (fun x=>x.1.isSome)
    && decide ((e::es).length+([]:List Keyword).length+(if([]:List Keyword).isEmpty then 0 else 1)<30))=true:=by rfl)
   (hline:(apos.endLine == cpos.line)=true:=by rfl) (hs:starEach (e::es) X.env=(false,eval e X.env)::starEach es X.env:=by rfl) (hplain:(backTo cpos (starEach es X.env)).any (·.1)=false:=by rfl) :
   DE X (.Call (.Attribute o name apos) (e::es) [] cpos) (bX isT m fo fr):=.of (by
 intro pins s σ H Q I h
 obtain⟨ι,σd,g,d,g',G0,S0,h,p⟩:=h
 obtain⟨⟨d1,g1⟩,h1,h⟩:=bind_some h
 dsimp only at h
 split at h
 . rename_i hT
   obtain⟨⟨ds,g2⟩,h2,h⟩:=bind_some h
   refine wpAny_Call_method_late hbase hfew hline rfl (aU (ho.un pins s σ H (fun x H1=>∃ι1,Ext H ι H1 ι1/\ay X.kw H1 ι1 g1/\a_ X.kw H1 ι1 σd σ/\Rel X.kw H1 ι1 d1 x) I (tD.bind G0 S0 h1 fun H1 ι1 v e1 G1 S1 r1=>⟨ι1,e1,G1,S1,r1⟩)) fun v s1 ⟨x,H1,I1,rx,ι1,e1,G1,S1,r1⟩=>?_)
   obtain⟨t1,t2⟩:=R.is I1 G1 r1 rx hT
   refine⟨T,id,R.pa,R.slot,R.ty,t1,t2,?_⟩
   have hA:=ha.un cpos pins s1 σ H1 _ I1 (f_.bind G1 S1 h2 fun H2 ι2 vs e2 G2 S2 r2=>(⟨ι2,e2,G2,r2⟩:(fun(vs:List V) (H2:Hp)=>∃ι2,Ext H1 ι1 H2 ι2/\ay X.kw H2 ι2 g2/\ag X.kw H2 ι2 ds vs) vs H2))
   rw [hs] at hA ⊢
   refine Calls.callWith_builtin (by show(false||(backTo cpos (starEach es X.env)).any (·.1))=false;rw [hplain]<;>rfl) (Calls.evalArgs_plain ?_)
   refine aU hA fun us s2 ⟨vs,H2,I2,r2,ι2,e2,G2,rs⟩=>?_
   exact R.run pins s2 σ H2 x vs v us Q I2 rx r2 ⟨ι2,g2,d1,ds,d,g',G2,Rel.ext e2 _ r1,rs,hT,h,p.mono (e1.trans e2)⟩
 . cases h)
theorem Ab (R:MR X T name id isT m)(ho:DE X o fo)(hbase:attributeBase o name X.env (eval o X.env)=eval o X.env:=by rfl)(hline:(apos.endLine == cpos.line)=true:=by rfl) :
   DE X (.Call (.Attribute o name apos) [] [] cpos) (bX isT m fo ao):=.of (by
 intro pins s σ H Q I h
 obtain⟨ι,σd,g,d,g',G0,S0,h,p⟩:=h
 obtain⟨⟨d1,g1⟩,h1,h⟩:=bind_some h
 dsimp only at h
 split at h
 . rename_i hT
   obtain⟨⟨ds,g2⟩,h2,h⟩:=bind_some h
   cases h2
   refine wpAny_Call_method0_late hbase hline (aU (ho.un pins s σ H (fun x H1=>∃ι1,Ext H ι H1 ι1/\ay X.kw H1 ι1 g1/\a_ X.kw H1 ι1 σd σ/\Rel X.kw H1 ι1 d1 x) I (tD.bind G0 S0 h1 fun H1 ι1 v e1 G1 S1 r1=>⟨ι1,e1,G1,S1,r1⟩)) fun v s1 ⟨x,H1,I1,rx,ι1,e1,G1,S1,r1⟩=>?_)
   obtain⟨t1,t2⟩:=R.is I1 G1 r1 rx hT
   refine⟨T,id,R.pa,R.slot,R.ty,t1,t2,Calls.callWith_builtin rfl (PySem.evalArgs_none ?_)⟩
   exact R.run pins s1 σ H1 x [] v [] Q I1 rx .nil ⟨ι1,g1,d1,[],d,g',G1,r1,by simp [ag],hT,h,p.mono e1⟩
 . cases h)
end
def fV:D->Bool
 | .aI _=>true
 | _=>false
theorem pP {X:Cx}{pins:List (Addr×Obj)}{σ:L2.St}{H:Hp}{s:Shared}{ι:Ix}{g:G}{d:D}{x:V}{v:Value}(I:Inv X pins σ H s)(G0:ay X.kw H ι g)(r:Rel X.kw H ι d x)(rv:RelV x v)(h:fV d=true) :
  s.TypeIs v "dict" /\ ∀a,v = .ref a->∃ob,s.heap.get? a=some ob/\ob.dict=none:=by
 cases d with
 | aI n =>
  simp only [Rel] at r
  obtain⟨a,rfl,ha⟩:=r
  cases rv
  have hi:n<g.length:=by rw [<- G0.len];exact(List.getElem?_eq_some_iff.mp ha.1).1
  obtain⟨es,vs,c,hH,_⟩:=G0.jB (List.getElem?_eq_getElem hi) ha
  obtain⟨ep,ho⟩:=oM I hH
  refine⟨⟨_,ho,rfl⟩,fun b e=>?_⟩
  cases e
  exact⟨_,ho,rfl⟩
 | _=>cases h
def gw (d:D)(ds:List D)(g:G):Option (D×G):=match d,ds with
 | .aI n,[k]=>(g[n]?).bind fun xs=>if bf 6 k=true then some ((aV xs k).getD .non,g) else none
 | .aI n,[k,x]=>(g[n]?).bind fun xs=>if bf 6 k=true then some ((aV xs k).getD x,g) else none
 | _,_=>none
theorem vals1 {x:V}{us:List Value}(r:Vals [x] us):∃u,us = [u]/\RelV x u:=by
 cases r with
 | cons a b=>cases b;exact⟨_,rfl,a⟩
theorem C1 {X:Cx}(hu:X.A.units+64<cLine):MR X "dict" "get" "dict.get" fV gw where
 pa:=PySem.F.plainAttrs_dict
 slot:=PySem.F.slot_dict_get
 ty:=PySem.F.type_dict_get
 is:=pP
 run:=by
  intro pins s σ H x xs v us Q I rx rs q
  obtain⟨ι,g,d,ds,d',g',G0,r1,rl,hT,q,p⟩:=q
  have hty:=(pP I G0 r1 rx hT).1
  cases d with
  | aI n =>
   simp only [Rel] at r1
   obtain⟨a,rfl,ha⟩:=r1
   cases rx
   have core:∀{k dflt:D} {ys:List D} {kv dv:V} {ku du:Value} {Q':Fin->Shared->Prop},g[n]? = some ys->bf 6 k=true->Rel X.kw H ι k kv->RelV kv ku->Rel X.kw H ι dflt dv->RelV dv du->eh X.kw H ι ((aV ys k).getD dflt) g Q ->
      (∀v s',EP X pins σ Q v s'->Q' (.done (.ret v)) s')->wpAny (model X.prog X.w) X.A.in1 (do
       if let some v <- dictGet a ku then return <- ret v
       match <- Builtin.Dict.missed a ku with
       | some v=>ret v
       | none=>ret du) Q' X.xe s:=by
    intro k dflt ys kv dv ku du Q' hx hk rk rku rd rdu p hQ
    obtain⟨es,vs,c,hH,hkd,hcl,rv,hh,nd,sy,sz,rl⟩:=G0.jB hx ha
    have en:=Ent.of rv hh rl
    refine wpAny_bind (nW I (by rw [in1_units];omega) hH en nd hk rk rku (fun hn tk=>?_) (fun w hs tk vv z rw_ rz=>?_))
    . rw [hn] at p
      exact wpAny_bind (wpAny_missed_other sy (wpAny_pure (hQ _ _ ⟨_,H,I.tok tk,rdu,p H ι _ Ext.refl G0 rd⟩)))
    . rw [hs] at p
      exact wpAny_pure (hQ _ _ ⟨_,H,I.tok tk,rz,p H ι _ Ext.refl G0 rw_⟩)
   match ds,q,rl with
   | [k],q,rl =>
    simp only [gw] at q
    obtain⟨ys,hx,q⟩:=bind_some q
    split at q
    . rename_i hk
      cases q
      simp only [ag] at rl
      obtain⟨kv,_,rfl,rk,rfl⟩:=rl
      obtain⟨u,rfl,ru⟩:=vals1 rs
      exact wpAny_call_entry PySem.F.slot_dict_get hty PySem.F.entry_dict_get (core (dflt:=.non) (dv:=.non) (du:=.none) hx hk rk ru (by simp [Rel]) rfl p fun v s' h=>⟨v,rfl,h⟩) (PySem.F.args_dict_get_2 _ _)
    . cases q
   | [k,y],q,rl =>
    simp only [gw] at q
    obtain⟨ys,hx,q⟩:=bind_some q
    split at q
    . rename_i hk
      cases q
      simp only [ag] at rl
      obtain⟨kv,_,rfl,rk,yv,_,rfl,ry,rfl⟩:=rl
      obtain⟨u,w',rfl,ru,rw_⟩:=vals2 rs
      exact wpAny_call_entry PySem.F.slot_dict_get hty PySem.F.entry_dict_get (core (dflt:=y) hx hk rk ru ry rw_ p fun v s' h=>⟨v,rfl,h⟩) (PySem.F.args_dict_get_3 _ _ _)
    . cases q
   | [],q,rl=>cases q
   | _::_::_::_,q,rl=>cases q
  | _=>cases hT
def gI:FE:=fun _ g=>some (.aI g.length,g ++ [[]])
section
variable {X:Cx}
theorem AJ {pos:Pos}:DE X (.Dict [] [] pos) gI:=.of (by
 intro pins s σ H Q I h
 obtain⟨ι,σd,g,d,g',G0,S0,h,p⟩:=h
 cases h
 have hf:H s.heap.objs.size=none:=I.hok.fresh (Nat.le_refl _)
 have hg:∀h:Heap,(h.push { cls:=.type "dict",data:=.dict #[] }).get? h.objs.size=some { cls:=.type "dict",data:=.dict #[] }:=fun h=>Heap.get?_push_size _ rfl
 refine wpAny_Dict_empty ⟨.ref s.heap.objs.size,upd H s.heap.objs.size (dO s.heap.objs.size [] 0),I.laid (t':=s.toks) (fun b u e=>Heap.get?_push_of_some _ e) (Nat.le_refl _) ?_,rfl,p _ _ _ (Ext.eS (b:=1) hf) (G0.eS hf (.d 0 [] [] (Nat.zero_le _) .nil .nil (by simp [aO]) (beq_eq_false_iff_ne.mpr (Ne.symm (Nat.ne_of_lt (big I)))) (Nat.zero_le _)) (by simp [ag])) ?_⟩
 . exact⟨hg _,⟨_,hg _⟩,fun h1 h2 q k=>k _ q⟩
 . simp only [Rel]
   exact⟨_,rfl,cS.new G0.len⟩)
end
end L3
namespace L3
open PySem PySem.Spec PyProof.Rows L2
def forLR (nn L:Nat)(t:FG)(b:FS):Nat->FS
 | 0,σ,g=>(g[nn]?).bind fun xs=>if xs.length=L then some (.nx,σ,g) else none
 | r+1,σ,g=>(g[nn]?).bind fun xs=>if xs.length=L then(xs[L-(r+1)]?).bind fun d=>(t d σ g).bind fun q=>(b q.1 q.2).bind fun r'=>match r'.1 with
   | .nx=>forLR nn L t b r r'.2.1 r'.2.2
   | .ct=>forLR nn L t b r r'.2.1 r'.2.2
   | .bk=>some (.nx,r'.2.1,r'.2.2)
   | .rt d=>some (.rt d,r'.2.1,r'.2.2)
  else none
section
variable {X:Cx}{tg:Expr}{pos:Pos}
inductive FC (X:Cx)(t:FG)(b:FS)(nn L:Nat)(H1:Hp)(ι1:Ix)(r:F)(σd':Sg)(g':G)(i:Nat)(σ2:L2.St)(H2:Hp):Prop
 | mk (ι2:Ix) (σd2:Sg) (g2:G) (e2:Ext H1 ι1 H2 ι2) (G2:ay X.kw H2 ι2 g2) (S2:a_ X.kw H2 ι2 σd2 σ2) (hf:forLR nn L t b (L-i) σd2 g2=some (r,σd',g')):FC X t b nn L H1 ι1 r σd' g' i σ2 H2
end
end L3
namespace L3
open PySem PySem.Spec PyProof.Rows L2 SeqAt DK
def mP:List (FE×FE)->Sg->G->Option (List (D×D)×G)
 | [],_,g=>some ([],g)
 | p::r,σ,g=>(p.1 σ g).bind fun a=>(p.2 σ a.2).bind fun b=>(mP r σ b.2).bind fun q=>some ((a.1,b.1)::q.1,q.2)
def putAll (n:Nat):List (D×D)->G->Option G
 | [],g=>some g
 | p::r,g=>(fE (.aI n) p.1 p.2 g).bind fun g'=>putAll n r g'
def eR (ps:List (FE×FE)):FE:=fun σ g=>(mP ps σ (g ++ [[]])).bind fun q=>(putAll g.length q.1 q.2).map fun g'=>(.aI g.length,g')
inductive iw (K:KW)(H:Hp)(ι:Ix):List (D×D)->List (Value×Value)->Prop
 | nil:iw K H ι [] []
 | cons {d1 d2:D} {x y:V} {u v:Value} {ds us} (h1:Rel K H ι d1 x) (h2:RelV x u) (h3:Rel K H ι d2 y) (h4:RelV y v) (r:iw K H ι ds us):iw K H ι ((d1,d2)::ds) ((u,v)::us)
theorem iw.ext {K H ι H' ι' ds us}(r:iw K H ι ds us)(e:Ext H ι H' ι'):iw K H' ι' ds us:=by
 induction r with
 | nil=>exact .nil
 | cons h1 h2 h3 h4 _ ih=>exact .cons (Rel.ext e _ h1) h2 (Rel.ext e _ h3) h4 ih
section
variable {X:Cx}
def d_ (X:Cx):List (Option Expr)->List Expr->List (FE×FE)->Prop
 | [],[],[]=>True
 | some k::ks,v::vs,p::r=>DE X k p.1/\DE X v p.2/\d_ X ks vs r
 | _,_,_=>False
theorem pY {pos:Pos}:∀(ps:List (FE×FE)) (keys:List (Option Expr)) (vals:List Expr),d_ X keys vals ps->∀{pins:List (Addr×Obj)} {s:Shared} {σ:L2.St} {H:Hp} {ι:Ix} {σd:Sg} {g g':G} {ds:List (D×D)},Inv X pins σ H s->ay X.kw H ι g->a_ X.kw H ι σd σ->mP ps σd g=some (ds,g') ->
  wpAny (model X.prog X.w) X.A (evalPairs (pairTrees keys vals X.env pos)) (fun us s'=>∃H' ι',Inv X pins σ H' s'/\Ext H ι H' ι'/\ay X.kw H' ι' g'/\iw X.kw H' ι' ds us) X.xe s
 | [],keys,vals,hd,pins,s,σ,H,ι,σd,g,g',ds,I,G0,S0,h=>by
  have e:keys = []/\vals = []:=by
    cases keys with
    | nil=>cases vals with | nil=>exact⟨rfl,rfl⟩ | cons _ _=>simp [d_] at hd
    | cons k _=>cases k<;>cases vals<;>simp [d_] at hd
  obtain⟨rfl,rfl⟩:=e
  cases h
  exact pairTrees_nil_walk ⟨H,ι,I,Ext.refl,G0,.nil⟩
 | p::ps,keys,vals,hd,pins,s,σ,H,ι,σd,g,g',ds,I,G0,S0,h=>by
  obtain⟨k,ks,v,vs,rfl,rfl,h1,h2,h3⟩:∃k ks v vs,keys=some k::ks/\vals=v::vs/\DE X k p.1/\DE X v p.2/\d_ X ks vs ps:=by
    cases keys with
    | nil=>cases vals<;>simp [d_] at hd
    | cons k ks =>
     cases k with
     | none=>cases vals<;>simp [d_] at hd
     | some k =>
      cases vals with
      | nil=>simp [d_] at hd
      | cons v vs=>simp only [d_] at hd;exact⟨k,ks,v,vs,rfl,rfl,hd⟩
  . simp only [mP] at h
    obtain⟨⟨d1,g1⟩,e1,h⟩:=bind_some h
    obtain⟨⟨d2,g2⟩,e2,h⟩:=bind_some h
    obtain⟨⟨dr,g3⟩,e3,h⟩:=bind_some h
    cases h
    refine pairTrees_cons_walk (aU (h1.un pins s σ H (fun w H'=>∃ι1,Ext H ι H' ι1/\ay X.kw H' ι1 g1/\Rel X.kw H' ι1 d1 w) I ⟨ι,σd,g,d1,g1,G0,S0,e1,fun H1 ι1 w e G1 r=>⟨ι1,e,G1,r⟩⟩) fun u1 s1 q1=>?_)
    obtain⟨w1,H1,I1,rv1,ι1,x1,G1,r1⟩:=q1
    refine aU (h2.un pins s1 σ H1 (fun w H'=>∃ι2,Ext H1 ι1 H' ι2/\ay X.kw H' ι2 g2/\Rel X.kw H' ι2 d2 w) I1 ⟨ι1,σd,g1,d2,g2,G1,S0.ext x1,e2,fun H2 ι2 w e G2 r=>⟨ι2,e,G2,r⟩⟩) fun u2 s2 q2=>?_
    obtain⟨w2,H2,I2,rv2,ι2,x2,G2,r2⟩:=q2
    refine aU (pY ps ks vs h3 I2 G2 ((S0.ext x1).ext x2) e3) fun us s3 q3=>?_
    obtain⟨H3,ι3,I3,x3,G3,r3⟩:=q3
    exact⟨H3,ι3,I3,(x1.trans x2).trans x3,G3,.cons (Rel.ext (x2.trans x3) _ r1) rv1 (Rel.ext x3 _ r2) rv2 r3⟩
theorem pO (hu:X.A.units+64<cLine){a:Addr}{n:Nat}{E:Value->Shared->Prop}:∀(ds:List (D×D)) (us:List (Value×Value)) {pins:List (Addr×Obj)} {s:Shared} {σ:L2.St} {H:Hp} {ι:Ix} {g g':G} {Q:PUnit->Shared->Prop},Inv X pins σ H s->ay X.kw H ι g->cS ι n a true->iw X.kw H ι ds us->putAll n ds g=some g' ->
  (∀s' H',Inv X pins σ H' s'->Ext H ι H' ι->ay X.kw H' ι g'->Q PUnit.unit s') ->
  wpAny (model X.prog X.w) X.A (forIn us PUnit.unit fun(x:Value×Value) (_:PUnit)=>(do dictSet a x.1 x.2;pure (ForInStep.yield PUnit.unit):Sem (ForInStep PUnit))) Q E s
 | [],us,pins,s,σ,H,ι,g,g',Q,I,G0,ha,r,h,p=>by
  cases r
  cases h
  rw [List.forIn_nil]
  exact wpAny_pure (p s H I Ext.refl G0)
 | (k,v)::ds,us,pins,s,σ,H,ι,g,g',Q,I,G0,ha,r,h,p=>by
  cases r with
  | cons h1 h2 h3 h4 r =>
   simp only [putAll,fE] at h
   obtain⟨g1,h5,h⟩:=bind_some h
   obtain⟨xs,hx,h5⟩:=bind_some h5
   split at h5
   . rename_i hk
     simp only [Bool.and_eq_true] at hk
     cases h5
     obtain⟨es,vs,c,hH,hkd,hcl,rvs,hh,nd,sy,sz,rl⟩:=G0.jB hx ha
     have en:=Ent.of rvs hh rl
     have hz:=aF.le hk.2
     rw [nr en] at hz
     rw [List.forIn_cons]
     refine wpAny_bind (wpAny_bind (jI I (by omega) hH hcl sz en nd hk.1 h1 h2 h3 h4 fun tk h' es' e1 e2 e3 e0 e4 e5=>wpAny_pure ?_))
     refine pO hu ds _ (lz I hH e4 e5) (lx G0 ha hkd hH e1 e2 sy e0 (by omega)) ha (r.ext (Ext.put ha hH)) h fun s' H' I' x' G'=>?_
     exact p s' H' I' ((Ext.put ha hH).trans x') G'
   . cases h5
theorem xu (hu:X.A.units+64<cLine){keys:List (Option Expr)}{vals:List Expr}{pos:Pos}{ps:List (FE×FE)}(hd:d_ X keys vals ps)(hall:keys.all (·.isSome)=true)(hl:keys.length=vals.length)(h0:keys ≠ [])(h15:keys.length<=15) :
  DE X (.Dict keys vals pos) (eR ps):=.of (by
 intro pins s σ H Q I h
 obtain⟨ι,σd,g,d,g',G0,S0,h,p⟩:=h
 obtain⟨⟨ds,g1⟩,h1,h⟩:=bind_some h
 obtain⟨g2,h2,h⟩:=Option.map_eq_some_iff.mp h
 cases h
 have hn:=pairTrees_length keys vals X.env pos hall hl
 have hne:pairTrees keys vals X.env pos ≠ []:=fun he=>by
  rw [he] at hn
  exact h0 (List.length_eq_zero_iff.mp hn.symm)
 rw [arm_eval_Dict,zip_pairTrees keys vals X.env pos hall hl,dictDisplay_pairs _ hne (by rw [hn];omega)]
 have hf:H s.heap.objs.size=none:=I.hok.fresh (Nat.le_refl _)
 have hg:∀h:Heap,(h.push { cls:=.type "dict",data:=.dict #[] }).get? h.objs.size=some { cls:=.type "dict",data:=.dict #[] }:=fun h=>Heap.get?_push_size _ rfl
 have I1:Inv X pins σ (upd H s.heap.objs.size (dO s.heap.objs.size [] 0)) { s with heap:=s.heap.push { cls:=.type "dict",data:=.dict #[] } }:=I.laid (t':=s.toks) (fun b u e=>Heap.get?_push_of_some _ e) (Nat.le_refl _) ⟨hg _,⟨_,hg _⟩,fun h1 h2 q k=>k _ q⟩
 have x1:Ext H ι (upd H s.heap.objs.size (dO s.heap.objs.size [] 0)) (ι.more s.heap.objs.size 1):=Ext.eS (b:=1) hf
 have G1:ay X.kw (upd H s.heap.objs.size (dO s.heap.objs.size [] 0)) (ι.more s.heap.objs.size 1) (g ++ [[]]):=G0.eS hf (.d 0 [] [] (Nat.zero_le _) .nil .nil (by simp [aO]) (beq_eq_false_iff_ne.mpr (Ne.symm (Nat.ne_of_lt (big I)))) (Nat.zero_le _)) (by simp [ag])
 have j0:cS (ι.more s.heap.objs.size 1) g.length s.heap.objs.size true:=cS.new G0.len
 refine wpAny_bind (wpAny_standAt (wpAny_bind ?_))
 unfold subDict
 refine wpAny_bind (wpAny_alloc ?_)
 refine wpAny_bind (wpAny_holding ?_)
 rw [if_pos (by rw [hn];exact h15)]
 refine wpAny_bind (aU (pY ps keys vals hd I1 G1 (S0.ext x1) h1) fun us s1 q=>?_)
 obtain⟨H1,ι1,I2,x2,G2,rp⟩:=q
 refine wpAny_holding (wpAny_bind (pO hu ds us I2 G2 (x2.at j0) rp h2 fun s' H' I' x' G'=>wpAny_pure (wpAny_pure (wpAny_pure ?_))))
 refine⟨.ref s.heap.objs.size,H',I',rfl,p H' ι1 _ ((x1.trans x2).trans x') G' ?_⟩
 simp only [Rel]
 exact⟨_,rfl,x2.at j0⟩)
end
end L3
namespace DK
open PySem PySem.Spec PyProof.Rows L2 L3
section
variable {prog:Program}{w:World}{A:Around}{E:Value->Shared->Prop}{s:Shared}{it d:Addr}{i n ep:Nat}{es:Array DictEntry}{Q:Option Value->Shared->Prop}
theorem next_end (hh:A.handled=none)(hit:s.heap.IsKeyIter it d i n ep)(ho:s.heap.get? d=some { cls:=.type "dict",data:=.dict es ep })(hn:es.size=n)(he:es.size<=i)
  (hQ:∀h',Heap.ExtBut it s.heap h'->Q none { s with heap:=h' }):wpAny (model prog w) A (pyNext (.ref it)) Q E s:=by
 subst hn
 obtain⟨o,h1,h2,h3⟩:=id hit
 have T:=hit.typeIs
 have own:Builtin.Dict_items.ownsTuple "dict_keyiterator" = false:=by decide
 have hh':A.in1.handled=none:=hh
 have ge:es[i]? = none:=Array.getElem?_eq_none he
 unfold pyNext
 refine wpAny_bind (wpAny_attempt (wpAny_callSpecial?_slot (name:=Str.ofString "__next__") T F.slot_dict_keyiterator_next (wpAny_call_entry F.slot_dict_keyiterator_next T F.entry_dict_keyiterator_next ?_ (F.args_dict_keyiterator_next_1 _))))
 unfold Builtin.«dict_keyiterator.__next__»
 wp_walk using (wpAny_typeNameOfWhole_keyiter T),(wpAny_fieldsOf h1 h3),(wpAny_dictEntries ho rfl),(wpAny_dictEpoch ho rfl)
 have ni:¬((i:Int)<0):=by omega
 simp only [ni,if_false,Int.toNat_natCast,ge]
 wp_walk using (wpAny_typeNameOfWhole_keyiter T),(wpAny_setField h1 h3 (by simp [own]))
 unfold raiseNew
 refine wpAny_bind (wpAny_handled ?_)
 rw [hh']
 refine wpAny_bind (wpAny_pure (wpAny_throw (wpAny_bind (wpAny_isInstance (T:="StopIteration") (b:=true) (v:=.ref _) (by exact⟨_,Heap.get?_push_size _ rfl,rfl⟩) isSubtype_stop ?_))))
 exact wpAny_pure (hQ _ (((Heap.SameBut.update ..).extBut.push _).push _))
theorem next_item {e:DictEntry}(hit:s.heap.IsKeyIter it d i n ep)(ho:s.heap.get? d=some { cls:=.type "dict",data:=.dict es ep })(hn:es.size=n)(he:es[i]? = some e)
  (hQ:∀h',h'.IsKeyIter it d (i+1) n ep->Heap.SameBut it s.heap h'->Q (some e.key) { s with heap:=h' }):wpAny (model prog w) A (pyNext (.ref it)) Q E s:=by
 subst hn
 obtain⟨o,h1,h2,h3⟩:=id hit
 have T:=hit.typeIs
 have ni:¬((i:Int)<0):=by omega
 have hit':(s.heap.update it (Obj.mapFields (·.setIfInBounds 1 (rawInt ((i:Int)+1))))).IsKeyIter it d (i+1) es.size ep :=
  ⟨_,Heap.get?_update_self _ h1 (Obj.isFreed_of_fields (Obj.data_mapFields h3 _)),(Obj.cls_mapFields ..).trans h2,by rw [Obj.data_mapFields h3];simp [rawInt]⟩
 unfold pyNext
 refine wpAny_bind (wpAny_attempt (wpAny_callSpecial?_slot (name:=Str.ofString "__next__") T F.slot_dict_keyiterator_next (wpAny_call_entry F.slot_dict_keyiterator_next T F.entry_dict_keyiterator_next ?_ (F.args_dict_keyiterator_next_1 _))))
 unfold Builtin.«dict_keyiterator.__next__»
 wp_walk using (wpAny_typeNameOfWhole_keyiter T),(wpAny_fieldsOf h1 h3),(wpAny_dictEntries ho rfl),(wpAny_dictEpoch ho rfl)
 simp only [ni,if_false,Int.toNat_natCast,he]
 have own:Builtin.Dict_items.ownsTuple "dict_keyiterator" = false:=by decide
 refine wpAny_bind (wpAny_bind (wpAny_typeNameOfWhole_keyiter T (wpAny_pure (wpAny_bind (wpAny_isOneOf_keyiter T ?_)))))
 rw [own]
 refine wpAny_bind (wpAny_setField h1 h3 (by simp) ?_)
 have T':Shared.TypeIs { s with heap:=s.heap.update it (Obj.mapFields (·.setIfInBounds 1 (rawInt ((i:Int)+1)))) } (.ref it) "dict_keyiterator":=hit'.typeIs
 refine wpAny_bind (wpAny_holding (wpAny_bind (wpAny_isOneOf_keyiter T' (wpAny_pure (wpAny_pure ⟨_,rfl,wpAny_pure (hQ _ hit' (Heap.SameBut.update ..))⟩)))))
theorem qg {Q:Value->Shared->Prop}(hd:(d == sysModules)=false)(ho:s.heap.get? d=some { cls:=.type "dict",data:=.dict es ep })
  (hQ:Q (.ref s.heap.objs.size) { s with heap:=s.heap.push { cls:=.type "dict_keyiterator",data:=.fields #[.ref d,.int 0 0,.int es.size 0,.int ep 0] } }):wpAny (model prog w) A (pyIter (.ref d)) Q E s:=by
 have T:s.TypeIs (.ref d) "dict":=⟨_,ho,rfl⟩
 refine wpAny_pyIter_slot T F.slot_dict_iter (wpAny_call_entry F.slot_dict_iter T F.entry_dict_iter ?_ (F.args_dict_iter_1 _))
 unfold Builtin.«dict.__iter__» Builtin.Dict.dictSlotNone Builtin.Dict.showsAll
 wp_walk using (wpAny_notOrdered_dict T),(wpAny_dictEntries ho rfl),(wpAny_dictEpoch ho rfl)
 exact⟨_,rfl,"dict_keyiterator",_,⟨_,Heap.get?_push_size _ rfl,rfl⟩,F.slot_dict_keyiterator_next.lookup,by simpa [rawInt] using hQ⟩
end
end DK
namespace L3
open PySem PySem.Spec PyProof.Rows L2 SeqAt DK
theorem jF:∀{es:List DictEntry} {i:Nat} {e:DictEntry},es[i]? = some e->(gG es)[2*i]? = some e.key
 | [],i,e,h=>by simp at h
 | x::es,0,e,h=>by simp at h;subst h;rfl
 | x::es,i+1,e,h=>by
  rw [show 2*(i+1)=2*i+1+1 by omega]
  simpa [gG] using jF (by simpa using h)
def CU (a:Addr)(n c:Nat):It :=
 ⟨fun i H=>∃es vs,H a=some (dO a es c)/\Vals vs (gG es)/\es.length=n/\i<n,fun i H x H'=>H'=H /\ ∀es vs,H a=some (dO a es c)->Vals vs (gG es)->vs[2*i]? = some x,fun i H=>∃es,H a=some (dO a es c)/\es.length=n/\n<=i⟩
theorem wZ {P:Program}{w:World}{K:PySem.W.Frag}{tg:Expr}(a it:Addr)(n c:Nat):Turn P w K tg (CU a n c) [it] it (fun i h=>h.IsKeyIter it a i n (n-c)) where
 mem:=by simp
 obj:=fun i h st b hb=>by
  have e:b=it:=by simpa using hb
  subst e
  obtain⟨o,e,c,d⟩:=st
  exact⟨o,e,fun v z=>by rw [d] at z;cases z⟩
 keep:=fun i h h' st k=>by
  obtain⟨o,e,c,d⟩:=st
  exact⟨o,k it (by simp) o e,c,d⟩
 item:=by
  intro X hP hw hK hc i pins s σ H E I hf st hg
  subst hP hw hK
  obtain⟨es,vs,hH,hv,hn,hi⟩:=hg
  have ho:=gh I hH
  rw [hn] at ho
  have hil:i<es.length:=by omega
  obtain⟨x,hx⟩:∃x,vs[2*i]? = some x:=by
   have h1:=jF (List.getElem?_eq_getElem hil)
   have h2:=(List.getElem?_eq_some_iff.mp h1).1
   exact⟨_,List.getElem?_eq_getElem (by rw [hv.length];exact h2)⟩
  obtain⟨u,hu,ru⟩:=hv.get hx
  have hk:=jF (List.getElem?_eq_getElem hil)
  rw [hk] at hu
  cases hu
  obtain⟨f0,f1,f2,f3,f4,f5⟩:=hf it (by simp)
  refine next_item (e:=es[i]) st ho (by simpa using hn) (by simp [hil]) fun h' st' sb=>?_
  have I1:Inv X pins σ H { s with heap:=h' }:=I.turned (t':=s.toks) (fun b o hb e=>(sb.2 b hb).trans e) f0 f1 f3 f4 f5
  obtain⟨o,e,c,d⟩:=id st'
  refine⟨_,rfl,oJ (s:={ s with heap:=h' }) e c d (by decide) ⟨x,H,I1,ru,⟨rfl,fun es' vs' h1 h2=>?_⟩,st',fun b hb=>(hf b hb).1⟩⟩
  have ho':=gh I h1
  have ho2:=gh I hH
  rw [ho2] at ho'
  have:es=es':=by
   injection ho' with q
   injection q with _ _ q _
   injection q with q _
   simpa using congrArg Array.toList q
  subst this
  rw [Vals.inj h2 hv]
  exact hx
 done:=by
  intro X hP hw hK hc i pins s σ H E I hf st hg
  subst hP hw hK
  obtain⟨es,hH,hn,hi⟩:=hg
  have ho:=gh I hH
  rw [hn] at ho
  obtain⟨f0,f1,f2,f3,f4,f5⟩:=hf it (by simp)
  exact next_end (I.ok.hd hc) st ho (by simpa using hn) (by simp;omega) fun h' eb=>⟨rfl,I.turned (t':=s.toks) (fun b o hb e=>eb b o hb e) f0 f1 f3 f4 f5⟩
 self:=fun _ _ _ _ _ st h=>wpAny_pyIter_keyiter st h
section
variable {X:Cx}{tg:Expr}
def CZ (tl:TE):TI:=fun σ H R=>tl σ H fun x H1=>∃a n c,x = .ref a/\(∃es,H1 a=some (dO a es c)/\es.length=n)/\(a == sysModules)=false/\R (CU a n c) H1
theorem Ax {l:Expr}{tl:TE}(hl:PE X l tl):PI X tg l (CZ tl):=by
 intro pins s σ H R I h
 refine aU (hl pins s σ H _ I h) fun v s1 ⟨x,H1,I1,r1,q1⟩=>?_
 obtain⟨a,n,c,e,⟨es,hH,hn⟩,hs,q⟩:=q1
 subst e
 cases r1
 have ho:=gh I1 hH
 refine qg hs ho ?_
 refine⟨s1.heap.objs.size,[s1.heap.objs.size],_,_,H1,rfl,I1.kept (t':=s1.toks) fun b o e=>Heap.get?_push_of_some _ e,wZ a _ n c,⟨_,Heap.get?_push_size _ rfl,rfl,by simp [hn]⟩,fun b hb=>?_,q⟩
 have e:b=s1.heap.objs.size:=by simpa using hb
 subst e
 exact I1.gv (Nat.le_refl _) (I1.hok.fresh (Nat.le_refl _))
end
end L3
namespace L3
open PySem PySem.Spec PyProof.Rows L2
def cC (nn L:Nat)(t:FG)(c:FT)(e:FE):Nat->Sg->G->Option (List D×G)
 | 0,_,g=>((g[nn]?).map aO).bind fun xs=>if xs.length=L then some ([],g) else none
 | r+1,σ,g=>((g[nn]?).map aO).bind fun xs=>if xs.length=L then(xs[L-(r+1)]?).bind fun d=>(t d σ g).bind fun q=>(c q.1 q.2).bind fun k=>if k.1=true then(e q.1 k.2).bind fun r'=>(cC nn L t c e r q.1 r'.2).bind fun z=>some (r'.1::z.1,z.2) else cC nn L t c e r q.1 k.2 else none
theorem rH {nn L:Nat}{t:FG}{c:FT}{e:FE}{σ:Sg}{g g':G}{all:List D}(h:cC nn L t c e 0 σ g=some (all,g')):∃xs,(g[nn]?).map aO=some xs/\xs.length=L/\all = []/\g'=g:=by
 simp only [cC] at h
 obtain⟨xs,hx,h⟩:=bind_some h
 split at h
 . rename_i z
   cases h
   exact⟨xs,hx,z,rfl,rfl⟩
 . cases h
theorem rA {nn L r:Nat}{t:FG}{c:FT}{e:FE}{σ:Sg}{g:G}{o:List D×G}(h:cC nn L t c e (r+1) σ g=some o):∃xs d,(g[nn]?).map aO=some xs/\xs.length=L/\xs[L-(r+1)]? = some d/\((t d σ g).bind fun q=>(c q.1 q.2).bind fun k=>if k.1=true then(e q.1 k.2).bind fun r'=>(cC nn L t c e r q.1 r'.2).bind fun z=>some (r'.1::z.1,z.2) else cC nn L t c e r q.1 k.2)=some o:=by
 simp only [cC] at h
 obtain⟨xs,hx,h⟩:=bind_some h
 split at h
 . rename_i z
   obtain⟨d,hd,h⟩:=bind_some h
   exact⟨xs,d,hx,z,hd,h⟩
 . cases h
def lU (K:KW)(J:It)(H:Hp)(ι:Ix)(nn L:Nat):Prop :=
 ∀(i:Nat) H1 ι1 g1,gA H ι H1 ι1->ay K H1 ι1 g1->∀xs,(g1[nn]?).map aO=some xs->xs.length=L->(L<=i->J.stop i H1) /\ ∀d,xs[i]? = some d->J.go i H1 /\ ∀x H2,J.yld i H1 x H2->Ext H1 ι1 H2 ι1/\ay K H2 ι1 g1/\Rel K H2 ι1 d x
inductive CG (K:KW)(f:jr)(σ:L2.St)(H:Hp)(R:(It->Hp->Prop)):Prop
 | mk (ι:Ix) (σd:Sg) (g:G) (nn:Nat) (L:Nat) (g':G) (h0:ay K H ι g) (h1:a_ K H ι σd σ) (h2:f σd g=some (nn,L,g')) (h3:∀H' ι' J,Ext H ι H' ι'->ay K H' ι' g'->lU K J H' ι' nn L->R J H'):CG K f σ H R
structure C6 (X:Cx)(tg iter:Expr)(f:jr):Prop where of ::
 un:PI X tg iter (CG X.kw f)
def kX (f:FE):jr:=fun σ g=>(f σ g).bind fun r=>match r.1 with | .aI n=>(r.2[n]?).bind fun xs=>some (n,(aO xs).length,r.2) | _=>none
theorem oS {K H ι}{xs:List D}{es:List DictEntry}(en:DK.Ent K H ι xs es):(aO xs).length=es.length:=by
 induction en with
 | nil=>rfl
 | cons _ _ _ _ _ _ _ ih=>simp [aO,ih]
theorem A_ {xs:List D}:∀{i:Nat} {d:D},(aO xs)[i]? = some d->xs[2*i]? = some d:=by
 have:∀(n:Nat) (xs:List D),xs.length<=n->∀{i:Nat} {d:D},(aO xs)[i]? = some d->xs[2*i]? = some d:=fun n=>by
  induction n with
  | zero=>intro xs h i d e;have:xs = []:=List.length_eq_zero_iff.mp (by omega);subst this;simp [aO] at e
  | succ n ih =>
   intro xs h i d e
   match xs,h,e with
   | [],_,e=>simp [aO] at e
   | [x],_,e=>simp [aO] at e
   | k::v::r,h,e =>
    cases i with
    | zero=>simpa [aO] using e
    | succ i =>
     rw [show 2*(i+1)=2*i+1+1 by omega]
     simpa using ih r (by simp at h;omega) (by simpa [aO] using e)
 exact fun {i d} h=>this xs.length xs (Nat.le_refl _) h
theorem lU.aI {K H ι a n L c}(h:cS ι n a true)(hk:ι.kd n=c+1):lU K (CU a L c) H ι n L:=fun i H1 ι1 g1 e1 G1 xs hx hl=>by
 obtain⟨ys,hy,rfl⟩:=Option.map_eq_some_iff.mp hx
 obtain⟨es,vs,c1,hH,hkd,hcl,rvs,hh,nd,sy,sz,rl⟩:=G1.jB hy (e1.at h)
 rw [e1.kds n (List.getElem?_eq_some_iff.mp h.1).1,hk] at hkd
 cases hkd
 have en:=DK.Ent.of rvs hh rl
 have hlen:=oS en
 refine⟨fun h=>⟨es,hH,by omega,h⟩,fun d hd=>?_⟩
 have hi:i<(aO ys).length:=(List.getElem?_eq_some_iff.mp hd).1
 refine⟨⟨es,vs,hH,rvs,by omega,by omega⟩,fun x H2 y=>?_⟩
 obtain⟨rfl,y⟩:=y
 have:=y es vs hH rvs
 obtain⟨v,hv,rv⟩:=rl.get (A_ hd)
 rw [hv] at this
 cases this
 exact⟨Ext.refl,G1,rv⟩
theorem AV {X:Cx}{tg l:Expr}{fe:FE}(hl:DE X l fe):C6 X tg l (kX fe):=.of (PI.imp (Ax hl.un) fun σ H Q h=>by
 obtain⟨ι,σd,g,nn,L,g',G0,S0,h,p⟩:=h
 obtain⟨⟨d1,g1⟩,h1,h⟩:=bind_some h
 cases d1 with
 | aI n =>
  obtain⟨xs,hx,h⟩:=bind_some h
  cases h
  refine tD.bind G0 S0 h1 fun H1 ι1 v e1 G1 S1 r1=>?_
  simp only [Rel] at r1
  obtain⟨a,rfl,ha⟩:=r1
  obtain⟨es,vs,c,hH,hkd,hcl,rvs,hh,nd,sy,sz,rl⟩:=G1.jB hx ha
  have en:=DK.Ent.of rvs hh rl
  exact⟨a,_,c,rfl,⟨es,hH,(oS en).symm⟩,sy,p H1 ι1 _ e1 G1 (.aI ha hkd)⟩
 | _=>cases h)
inductive qG (X':Cx)(t:FG)(c:FT)(e:FE)(fp:List Addr)(Dl:Addr)(tn:Nat->Heap->Prop)(nn L:Nat)(all:List D)(H1:Hp)(ι1:Ix)(g':G)(n:Nat)(s:Shared):Prop
 | mk (i:Nat) (σ:L2.St) (H:Hp) (ιo:Ix) (σd:Sg) (g:G) (vs:List V) (acc more:List D) (hn:n=L+1-i) (hil:i<=L) (I:Inv X' [] σ H s) (ti:tn i s.heap) (fri:∀b∈fp,H b=none) (E1:Ext H1 ι1 H ιo) (G1:ay X'.kw H (Ix.hide ιo Dl) g) (S1:a_ X'.kw H (Ix.hide ιo Dl) σd σ)
  (hHD:H Dl=some (.lst vs)) (racc:ag X'.kw H (Ix.hide ιo Dl) acc vs) (hal:acc.length<=i) (hf:cC nn L t c e (L-i) σd g=some (more,g')) (ea:all=acc++more):qG X' t c e fp Dl tn nn L all H1 ι1 g' n s
theorem tE {X':Cx}{tg iter elt:Expr}{ifs:List Expr}{scope:Scope}{pos:Pos}{t:FG}{c:FT}{e:FE}{J:It}{fp:List Addr}{it Dl:Addr}{tn:Nat->Heap->Prop}{all:List D}{nn L:Nat}{H1:Hp}{ι1:Ix}{g':G}{R:Result->Shared->Prop}
   (hxe:X'.xe=fun _ _=>False) (hc:X'.calm=true) (T:Turn X'.prog X'.w X'.kw tg J fp it tn) (hfp:∀b∈fp,cM X' [] X'.H₀ b) (J1:lU X'.kw J H1 ι1 nn L) (hD:H1 Dl=none) (hz:L<=sizeLine)
   (hg:DG X' tg t) (hi:dY X' ifs c) (he:DE X' elt e)
   (fin:∀s' σ' H' ιo vs,Inv X' [] σ' H' s'->(∀b∈fp,H' b=none)->Ext H1 ι1 H' ιo->ay X'.kw H' (Ix.hide ιo Dl) g'->H' Dl=some (.lst vs)->ag X'.kw H' (Ix.hide ιo Dl) all vs->R (.ok .next) s') :
   ∀(s:Shared) (σ:L2.St) (H:Hp) (ιo:Ix) (σd:Sg) (g:G),Inv X' [] σ H s->tn 0 s.heap->(∀b∈fp,H b=none)->Ext H1 ι1 H ιo->ay X'.kw H (Ix.hide ιo Dl) g->a_ X'.kw H (Ix.hide ιo Dl) σd σ->H Dl=some (.lst [])->cC nn L t c e L σd g=some (all,g') ->
    codeAny (model X'.prog X'.w) X'.A (.compLoop (.ListComp elt [⟨tg,iter,ifs,0⟩] scope pos) 0 (.ref it) (.ref Dl) X'.env) R s:=by
 intro s σ H ιo σd g I t0 fr0 E0 G0 S0 hH hf0
 have stat:∀{H':Hp},(∀b∈fp,H' b=none)->∀b∈fp,cM X' [] H' b:=fun hn b hb=>⟨hn b hb,(hfp b hb).2⟩
 refine codeAny_loop rfl (qG X' t c e fp Dl tn nn L all H1 ι1 g') ?_ (L+1)
   ⟨0,σ,H,ιo,σd,g,[],[],all,rfl,Nat.zero_le _,I,t0,fr0,E0,G0,S0,hH,by simp [ag],Nat.le_refl _,by simpa using hf0,rfl⟩
 clear hf0 hH S0 G0 E0 fr0 t0 I g σd ιo H σ s
 rintro n s ⟨i,σ,H,ιo,σd,g,vs,acc,more,rfl,hil,I,ti,fri,E1,G1,S1,hHD,racc,hal,hf,rfl⟩
 show wpAny _ X'.A ((compTurn (.ListComp elt [⟨tg,iter,ifs,0⟩] scope pos) 0 (.ref it) (.ref Dl) X'.env).onRaise (fun x=>do noteFrame x X'.env;theTreesLotGoes x)) _ _ s
 refine wpAny_noted ?_
 rw [compTurn_list]
 refine wpAny_bind (wpAny_standAt (wpAny_bind ?_))
 have j1:=J1 i H (Ix.hide ιo Dl) g (E1.xm hD) G1
 by_cases hlt:i<L
 . rw [show L-i=(L-(i+1))+1 by omega] at hf
   obtain⟨xs,d0,hxs,hxl,hd0,hf⟩:=rA hf
   rw [show L-(L-(i+1)+1)=i by omega] at hd0
   obtain⟨st,go⟩:=j1 xs hxs hxl
   obtain⟨go,yl⟩:=go d0 hd0
   refine aU (T.item X' rfl rfl rfl hc i [] s σ H _ I (stat fri) ti go) fun r s4 ⟨u,hr,h4⟩=>?_
   subst hr
   refine wpAny_bind (aU h4 fun _ s5 ⟨x,H5,I5,r5,y5,t5,fr5⟩=>?_)
   obtain⟨e5,G5,rd5⟩:=yl x H5 y5
   obtain⟨⟨σ6,g6⟩,h6,hf⟩:=bind_some hf
   obtain⟨⟨k7,g7⟩,h7,hf⟩:=bind_some hf
   have I5':=I5.pinned (stat fr5) (T.obj _ _ t5)
   have lift:∀{α:Type} {tr:Sem α} {Q:α->Shared->Prop} {E:Value->Shared->Prop} {s:Shared},wpAny (model X'.prog X'.w) X'.A tr Q X'.xe s->wpAny (model X'.prog X'.w) X'.A tr Q E s:=fun h=>wpAny_mono h (fun _ _ q=>q) fun _ _ z=>by rw [hxe] at z;exact z.elim
   have again:∀{s9:Shared} {σ9:L2.St} {H9:Hp} {ι9:Ix} {σd9:Sg} {g9:G} {vs9:List V} {acc9:List D} {more9:List D},Inv X' ([]++hG fp s5.heap) σ9 H9 s9->Ext H1 ι1 H9 ι9->ay X'.kw H9 (Ix.hide ι9 Dl) g9->a_ X'.kw H9 (Ix.hide ι9 Dl) σd9 σ9 ->
     H9 Dl=some (.lst vs9)->ag X'.kw H9 (Ix.hide ι9 Dl) acc9 vs9->acc9.length<=i+1->cC nn L t c e (L-(i+1)) σd9 g9=some (more9,g')->acc++more=acc9++more9 ->
     ∃m,m<L+1-i/\qG X' t c e fp Dl tn nn L (acc++more) H1 ι1 g' m s9:=by
    intro s9 σ9 H9 ι9 σd9 g9 vs9 acc9 more9 I9 E9 G9 S9 h9 r9 l9 f9 a9
    refine⟨L+1-(i+1),by omega,i+1,σ9,H9,ι9,σd9,g9,vs9,acc9,more9,rfl,hlt,I9.fR,T.keep _ _ _ t5 fun b hb o e=>(I9.pin (b,o) (List.mem_append_right _ (List.mem_append_right _ (cZ hb e)))).1,fun b hb=>?_,E9,G9,S9,h9,r9,l9,f9,a9⟩
    obtain⟨o,e,d⟩:=T.obj _ _ t5 b hb
    exact(I9.pin (b,o) (List.mem_append_right _ (List.mem_append_right _ (cZ hb e)))).2.1
   refine wpAny_bind (lift (aU (hg.un _ s5 σ H5 x u (fun σ' H'=>∃ι6,Ext H5 (Ix.hide ιo Dl) H' ι6/\ay X'.kw H' ι6 g6/\a_ X'.kw H' ι6 σ6 σ') I5' r5 ⟨Ix.hide ιo Dl,σd,g,d0,σ6,g6,G5,S1.ext e5,rd5,h6,fun H6 ι6 σ6' e6 G6 S6=>⟨ι6,e6,G6,S6⟩⟩) fun _ s6 q6=>?_))
   obtain⟨σ6',H6,I6,ι6,e6,G6,S6⟩:=q6
   refine wpAny_bind (lift (aU (hi.un _ s6 σ6' H6 (fun b H'=>b=k7 /\ ∃ι7,Ext H6 ι6 H' ι7/\ay X'.kw H' ι7 g7) I6 ⟨ι6,σ6,g6,k7,g7,G6,S6,h7,fun H7 ι7 e7 G7=>⟨rfl,ι7,e7,G7⟩⟩) fun ok s7 q7=>?_))
   obtain⟨H7,I7,rfl,ι7,e7,G7⟩:=q7
   have e57:=(e5.trans e6).trans e7
   obtain⟨E7,ei7⟩:=E1.j9 e57
   have hD7:H7 Dl=some (.lst vs):=e57.same Dl _ hHD (G1.hid Dl List.mem_cons_self).1
   have r7:=ag.ext e57 _ racc
   have S7:=S6.ext e7
   cases ok with
   | false =>
    simp only [Bool.false_eq_true,if_false] at hf
    refine wpAny_pure ⟨rfl,?_⟩
    rw [ei7] at G7 S7 r7
    exact again I7 E7 G7 S7 hD7 r7 (by omega) hf rfl
   | true =>
    simp only [if_true] at hf
    obtain⟨⟨d8,g8⟩,h8,hf⟩:=bind_some hf
    obtain⟨⟨more9,g9⟩,h9,hf⟩:=bind_some hf
    obtain⟨rfl,rfl⟩:d8::more9=more/\g9=g':=by cases hf;exact⟨rfl,rfl⟩
    refine wpAny_bind (wpAny_bind (lift (aU (he.un _ s7 σ6' H7 (fun v H'=>∃ι8,Ext H7 ι7 H' ι8/\ay X'.kw H' ι8 g8/\Rel X'.kw H' ι8 d8 v) I7 ⟨ι7,σ6,g7,d8,g8,G7,S7,h8,fun H8 ι8 v e8 G8 r8=>⟨ι8,e8,G8,r8⟩⟩) fun y s8 q8=>?_)))
    obtain⟨v8,H8,I8,rv8,ι8,e8,G8,r8⟩:=q8
    have e58:=e57.trans e8
    obtain⟨E8,ei8⟩:=E1.j9 e58
    have hD8:H8 Dl=some (.lst vs):=e58.same Dl _ hHD (G1.hid Dl List.mem_cons_self).1
    have racc8:=ag.ext e58 _ racc
    have S8:=S7.ext e8
    have hlen:vs.length<sizeLine:=by rw [<- racc.length];omega
    rw [ei8] at G8 S8 racc8 r8
    refine wpAny_bind (lift (aU (iq (X:=X') _ s8 σ6' H8 (.ref Dl) [v8] (.ref Dl) [y] (fun _ H'=>H'=upd H8 Dl (.lst (vs ++ [v8]))) I8 rfl (.cons rv8 .nil) ⟨Dl,vs,v8,rfl,rfl,hD8,hlen,rfl⟩) fun _ s9 q9=>?_))
    obtain⟨_,H9,I9,_,rfl⟩:=q9
    refine wpAny_pure (wpAny_pure ⟨rfl,?_⟩)
    refine again (acc9:=acc ++ [d8]) I9 (E8.ki hD) (G8.grow hD8) ⟨S8.1,fun j d q=>let⟨v,a,b⟩:=S8.2 j d q;⟨v,a,Rel.grow hD8 d b⟩⟩ aX ?_ (by simp;omega) h9 (by simp)
    exact ag.append (ag.grow hD8 _ racc8) (by simp only [ag];exact⟨v8,[],rfl,Rel.grow hD8 _ r8,rfl⟩)
 . have ei:i=L:=by omega
   subst ei
   rw [Nat.sub_self] at hf
   obtain⟨xs,hxs,hxl,rfl,rfl⟩:=rH hf
   obtain⟨st,go⟩:=j1 xs hxs hxl
   refine aU (T.done X' rfl rfl rfl hc _ [] s σ H _ I (stat fri) ti (st (Nat.le_refl _))) fun r s4 ⟨hr,I4⟩=>?_
   subst hr
   exact wpAny_pure (fin s4 σ H ιo vs I4 fri E1 G1 hHD (by simpa using racc))
def iN (mk:List D->G->Option (D×G))(fi:jr)(fr:List (Option Nat))(t:FG)(c:FT)(e:FE):FE:=fun σ g=>(fi σ g).bind fun r=>if aF r.2.1=true then(cC r.1 r.2.1 t c e r.2.1 (bu fr σ) r.2.2).bind fun q=>mk q.1 q.2 else none
section
variable {X:Cx}{tg iter elt:Expr}{ifs:List Expr}{scope:Scope}{pos cpos:Pos}{N:List Str}{fr:List (Option Nat)}{fi:jr}{t:FG}{c:FT}{e:FE}
theorem uf {pins:List (Addr×Obj)}{s:Shared}{σ:L2.St}{H:Hp}{ι:Ix}{σd:Sg}{g g1 g':G}{all:List D}{nn L:Nat}{use:Option (Value->Sem Unit)}{Q:Value->Shared->Prop}
  (hxe:X.xe=fun _ _=>False) (hc:X.calm=true) (ok:dq X N fr scope) (hit:C6 X tg iter fi) (hin:∀C s3 H fp pins,DG (aW X N scope C s3 H fp pins) tg t/\dY (aW X N scope C s3 H fp pins) ifs c/\DE (aW X N scope C s3 H fp pins) elt e)
  (hs:∀x,foldedSetIterable iter X.env x=pure x) (I:Inv X pins σ H s) (G0:ay X.kw H ι g) (S0:a_ X.kw H ι σd σ) (h1:fi σd g=some (nn,L,g1)) (hz:aF L=true) (h2:cC nn L t c e L (bu fr σd) g1=some (all,g'))
  (fin:∀s' H' ιo vs Dl C,Inv X pins σ H' s'->cM X pins H' C->(∃m,s'.heap.Ns C m)->Ext H ι H' ιo->ay X.kw H' (Ix.hide ιo Dl) g'->H' Dl=some (.lst vs)->ag X.kw H' (Ix.hide ιo Dl) all vs->Dl ∉ ιo.hd->H Dl=none->compPost (model X.prog X.w) X.A X.xe use Q (.ref Dl) C (.ok .next) s') :
  wpAny (model X.prog X.w) X.A (comprehension (.ListComp elt [⟨tg,iter,ifs,0⟩] scope pos) scope X.env cpos (newList []) false (eval iter X.env) use) Q X.xe s:=by
 have free:∀x∈scope.names,x.2 = .free->∃c,X.env.cells.lookup x.1=some c:=fun x hx hk=>I.ok.has x.1 (ok.free x hx hk).2
 refine wpAny_comprehension_free (use:=use) rfl hs (gr free) ok.kind ok.names (aU (hit.un pins s σ H (fun J H'=>∃ι1,Ext H ι H' ι1/\ay X.kw H' ι1 g1/\lU X.kw J H' ι1 nn L) I ⟨ι,σd,g,nn,L,g1,G0,S0,h1,fun H1 ι1 J e1 G1 J1=>⟨ι1,e1,G1,J1⟩⟩) fun xv s1 h1'=>aU h1' fun itv s2 q2=>?_)
 obtain⟨it,fp,tn,J,H1,rfl,I1,T,t1,f1,ι1,e1,G1,J1⟩:=q2
 refine wpAny_newObj_type ?_
 have hDn:H1 s2.heap.objs.size=none:=I1.hok.fresh (Nat.le_refl _)
 generalize hs3:({ s2 with heap:=s2.heap.push { cls:=.type "list",dict:=none,data:=.seq ([]:List Value).toArray } }:Shared)=s3
 have I3:Inv X pins σ (upd H1 s2.heap.objs.size (.lst [])) s3:=by
  rw [<- hs3]
  exact I1.laid (t':=s2.toks) (fun b u e=>Heap.get?_push_of_some _ e) (Nat.le_refl _) ⟨Nat.zero_le _,[],0,.nil,Heap.get?_push_size _ rfl⟩
 have k3:∀b o,s2.heap.get? b=some o->s3.heap.get? b=some o:=fun b o e=>by rw [<- hs3];exact Heap.get?_push_of_some _ e
 have sz3:s3.heap.objs.size=s2.heap.objs.size+1:=by rw [<- hs3];exact Heap.size_push ..
 have hfl:∀b∈fp,b<s2.heap.objs.size:=fun b hb=>let⟨o,eo,_⟩:=T.obj _ _ t1 b hb;Heap.lt_size eo
 have f3:∀b∈fp,cM X pins (upd H1 s2.heap.objs.size (.lst [])) b:=fun b hb=>⟨by rw [aN (Nat.ne_of_lt (hfl b hb))];exact(f1 b hb).1,(f1 b hb).2⟩
 refine wpAny_newFunctionEnv ok.nocell (by intro y hy;simp at hy) (fun h4 hns hsb=>?_) ok.kind
 have k4:∀b o,s3.heap.get? b=some o->h4.get? b=some o:=fun b o e=>hsb.extBut b o (Nat.ne_of_lt (Heap.lt_size e)) (Heap.get?_push_of_some _ e)
 have hns':h4.Ns s3.heap.objs.size fun _=>none:=by simpa using hns
 have I4:=i3 (tk:=s3.toks+([]:List (Str×Value)).length) ok I3 f3 (fun b hb=>by rw [sz3];exact Nat.lt_succ_of_lt (hfl b hb)) hns' k4
 obtain⟨hg,hi,he⟩:=hin s3.heap.objs.size s3 (upd H1 s2.heap.objs.size (.lst [])) fp pins
 have t4:tn 0 h4:=T.keep _ _ _ t1 fun b hb o e=>k4 b o (k3 b o e)
 have fx:∀b∈fp,cM (aW X N scope s3.heap.objs.size s3 (upd H1 s2.heap.objs.size (.lst [])) fp pins) [] (upd H1 s2.heap.objs.size (.lst [])) b:=fun b hb=>by
  refine⟨(f3 b hb).1,?_,?_,.inl hb,?_,?_⟩
  . exact Nat.ne_of_lt (by rw [sz3];exact Nat.lt_succ_of_lt (hfl b hb))
  . exact I4.ok.exfs b hb
  . exact(I4.ok.exf b hb).2
  . intro p hp
    have hp':p∈X.pn++pins:=by
      have q:p∈(X.pn++pins) ++ []:=hp
      simpa using q
    exact(f1 b hb).2.2.2.2.2 p hp'
 have loop:codeAny (model X.prog X.w) X.A (.compLoop (.ListComp elt [⟨tg,iter,ifs,0⟩] scope pos) 0 (.ref it) (.ref s2.heap.objs.size) (compEnvC scope (gp scope X.env) s3.heap.objs.size X.env))
    (compPost (model X.prog X.w) X.A X.xe use Q (.ref s2.heap.objs.size) s3.heap.objs.size) { s3 with heap:=h4,toks:=s3.toks+([]:List (Str×Value)).length }:=by
  refine tE (X':=aW X N scope s3.heap.objs.size s3 (upd H1 s2.heap.objs.size (.lst [])) fp pins) (all:=all) (g':=g') rfl hc T fx J1 hDn (aF.le hz) hg hi he ?_ _ _ _ ι1 (bu fr σd) g1 I4 t4 (fun b hb=>(f3 b hb).1) ((Ext.refl (H:=H1) (ι:=ι1)).ki hDn) (G1.hide hDn) ?_ aX h2
  . intro s' σ' H' ιo vs I' fr' E' G' hD' r'
    have I5:Inv X pins σ H' s':=I3.uD (ch:=fp) I'.os I'.base I'.hok I'.bare fun b hb=>⟨(f3 b hb).2.2.2.1,(f3 b hb).2.1,(f3 b hb).2.2.2.2.1,(f3 b hb).2.2.2.2.2⟩
    obtain⟨m,hm,_⟩:=I'.loc
    refine fin s' H' ιo vs _ _ I5 ?_ ⟨m,hm⟩ (e1.trans E') G' hD' r' ?_ ?_
    . have z:=I3.gv (H':=H') (b:=s3.heap.objs.size) (Nat.le_refl _) I'.free
      exact z
    . rw [E'.hid];exact G1.fX hDn
    . cases q:H s2.heap.objs.size with
      | none=>rfl
      | some o=>exact absurd hDn (e1.there _ (by rw [q];simp))
  . have S1:a_ X.kw H1 ι1 (bu fr σd) (bu fr σ):=(S0.ext e1).sub fr
    exact⟨S1.1,fun j d q=>let⟨v,a,b⟩:=S1.2 j d q;⟨v,a,Rel.hide hDn d b⟩⟩
 exact codeAny_compStart_list loop (T.self _ 0 _ _ _ t4 loop)
theorem x8 (hxe:X.xe=fun _ _=>False)(hc:X.calm=true)(ok:dq X N fr scope)(hit:C6 X tg iter fi)(hin:∀C s3 H fp pins,DG (aW X N scope C s3 H fp pins) tg t/\dY (aW X N scope C s3 H fp pins) ifs c/\DE (aW X N scope C s3 H fp pins) elt e)
   (hs:∀x,foldedSetIterable iter X.env x=pure x:=by intro _;rfl):DE X (.ListComp elt [⟨tg,iter,ifs,0⟩] scope pos) (iN bB fi fr t c e):=.of (by
 intro pins s σ H Q I h
 obtain⟨ι,σd,g,d,gg,G0,S0,h,p⟩:=h
 obtain⟨⟨nn,L,g1⟩,h1,h⟩:=bind_some h
 dsimp only at h
 split at h
 . rename_i hz
   obtain⟨⟨all,g'⟩,h2,h⟩:=bind_some h
   rw [eval_ListComp]
   refine uf (use:=none) hxe hc ok hit hin hs I G0 S0 h1 hz h2 fun s' H' ιo vs Dl C I' fC ⟨m,hm⟩ e' G' hD r hn hf0=>?_
   refine⟨m,hm,fun h'' sb=>⟨.ref Dl,H',?_,rfl,ia e' G' hD r hn h p⟩⟩
   obtain⟨f0,f1,f2,f3,f4,f5⟩:=fC
   exact I'.turned (t':=s'.toks) (fun b o hb e=>sb.extBut b o hb e) f0 f1 f3 f4 f5
 . cases h)
end
section
variable {σ:Sg}{g:G}{fa:FE}
@[simp] theorem J2:kX fa σ g=(fa σ g).bind fun r=>match r.1 with | .aI n=>(r.2[n]?).bind fun xs=>some (n,(aO xs).length,r.2) | _=>none:=rfl
@[simp] theorem vZ {mk:List D->G->Option (D×G)}{fi:jr}{fr:List (Option Nat)}{t:FG}{c:FT}:iN mk fi fr t c fa σ g=(fi σ g).bind fun r=>if aF r.2.1=true then(cC r.1 r.2.1 t c fa r.2.1 (bu fr σ) r.2.2).bind fun q=>mk q.1 q.2 else none:=rfl
end
def tx (nn L:Nat)(t:FG)(b:FS):Nat->FS
 | 0,σ,g=>((g[nn]?).map aO).bind fun xs=>if xs.length=L then some (.nx,σ,g) else none
 | r+1,σ,g=>((g[nn]?).map aO).bind fun xs=>if xs.length=L then(xs[L-(r+1)]?).bind fun d=>(t d σ g).bind fun q=>(b q.1 q.2).bind fun r'=>match r'.1 with
   | .nx=>tx nn L t b r r'.2.1 r'.2.2
   | .ct=>tx nn L t b r r'.2.1 r'.2.2
   | .bk=>some (.nx,r'.2.1,r'.2.2)
   | .rt d=>some (.rt d,r'.2.1,r'.2.2)
  else none
section
variable {X:Cx}{tg:Expr}{pos:Pos}
inductive Gy (X:Cx)(t:FG)(b:FS)(nn L:Nat)(H1:Hp)(ι1:Ix)(r:F)(σd':Sg)(g':G)(i:Nat)(σ2:L2.St)(H2:Hp):Prop
 | mk (ι2:Ix) (σd2:Sg) (g2:G) (e2:Ext H1 ι1 H2 ι2) (G2:ay X.kw H2 ι2 g2) (S2:a_ X.kw H2 ι2 σd2 σ2) (hf:tx nn L t b (L-i) σd2 g2=some (r,σd',g')):Gy X t b nn L H1 ι1 r σd' g' i σ2 H2
end
abbrev VW:=G->Option (List D)
abbrev Hy:=Sg->G->Option (VW×Nat×G)
def Gv (K:KW)(J:It)(H:Hp)(ι:Ix)(vw:VW)(L:Nat):Prop :=
 ∀(i:Nat) H1 ι1 g1,gA H ι H1 ι1->ay K H1 ι1 g1->∀xs,vw g1=some xs->xs.length=L->(L<=i->J.stop i H1) /\ ∀d,xs[i]? = some d->J.go i H1 /\ ∀x H2,J.yld i H1 x H2->Ext H1 ι1 H2 ι1/\ay K H2 ι1 g1/\Rel K H2 ι1 d x
inductive Dp (K:KW)(f:Hy)(σ:L2.St)(H:Hp)(R:(It->Hp->Prop)):Prop
 | mk (ι:Ix) (σd:Sg) (g:G) (vw:VW) (L:Nat) (g':G) (h0:ay K H ι g) (h1:a_ K H ι σd σ) (h2:f σd g=some (vw,L,g')) (h3:∀H' ι' J,Ext H ι H' ι'->ay K H' ι' g'->Gv K J H' ι' vw L->R J H'):Dp K f σ H R
structure Lz (X:Cx)(tg iter:Expr)(f:Hy):Prop where of ::
 un:PI X tg iter (Dp X.kw f)
def t6 (vw:VW)(L:Nat)(t:FG)(b:FS):Nat->FS
 | 0,σ,g=>(vw g).bind fun xs=>if xs.length=L then some (.nx,σ,g) else none
 | r+1,σ,g=>(vw g).bind fun xs=>if xs.length=L then(xs[L-(r+1)]?).bind fun d=>(t d σ g).bind fun q=>(b q.1 q.2).bind fun r'=>match r'.1 with
   | .nx=>t6 vw L t b r r'.2.1 r'.2.2
   | .ct=>t6 vw L t b r r'.2.1 r'.2.2
   | .bk=>some (.nx,r'.2.1,r'.2.2)
   | .rt d=>some (.rt d,r'.2.1,r'.2.2)
  else none
section
variable {X:Cx}{tg:Expr}{pos:Pos}
inductive Fm (X:Cx)(t:FG)(b:FS)(vw:VW)(L:Nat)(H1:Hp)(ι1:Ix)(r:F)(σd':Sg)(g':G)(i:Nat)(σ2:L2.St)(H2:Hp):Prop
 | mk (ι2:Ix) (σd2:Sg) (g2:G) (e2:Ext H1 ι1 H2 ι2) (G2:ay X.kw H2 ι2 g2) (S2:a_ X.kw H2 ι2 σd2 σ2) (hf:t6 vw L t b (L-i) σd2 g2=some (r,σd',g')):Fm X t b vw L H1 ι1 r σd' g' i σ2 H2
end
end L3
namespace RI
open PySem PySem.Spec PyProof.Rows L2 L3
structure G0 where
 T:Nat->Fn
 k:Nat
 fns:List (Str×Nat×Nat)
 nms:List Str
 cns:List (Str×D)
 dcs:List (Str×List (Str×D))
structure Cs where
 N:List Str
 sc:Scope
 all:Bool
 mt:List Str
inductive wM (m:G0)(X:Cx)(x:Str)(i n:Nat):Prop
 | mk (f:Addr) (fd:FuncData) (ps:List Str) (ok:cV X.prog X.w X.K X.mg X.base gC m.k f fd ps (jG X.kw n (m.T i))) (hm:X.mg x=some (.ref f)) (kp:PySem.W.keepIn X.K (.ref f)=true) (b:Binds X.K fd ps []) (ln:∀ds g r,m.T i ds g=some r->ds.length=n):wM m X x i n
structure Gd (m:G0)(c:Cs)(X:Cx):Prop where
 hN:X.N=c.N
 hs:X.env.scope=c.sc
 nd:c.N.Nodup
 xe:X.xe=fun _ _=>False
 cm:X.calm=true
 rm:aC m.k X.A
 al:c.all=true->∀x,X.fn x=true
 fn:∀x i n,(x,i,n)∈m.fns->wM m X x i n
 bl:∀x∈m.nms,X.mg x=none
 cn:∀x d,(x,d)∈m.cns->∃v u,X.mg x=some u/\RelV v u /\ ∀K H ι,Rel K H ι d v
 dc:∀x t,(x,t)∈m.dcs->∃a,X.mg x=some (.ref a)/\oG X.w X.kw a t
def jP:FT:=fun _ _=>none
def lI:FA:=fun _ _=>none
def c_:FS:=fun _ _=>none
def mq:FI:=fun _ _=>none
def mf:FG:=fun _ _ _=>none
section
variable {X:Cx}
theorem m9 {e:Expr}:DT X e jP:=.of (fun pins s σ H Q I h=>by obtain⟨_,_,_,_,_,_,_,h,_⟩:=h;cases h)
theorem mS {es:List Expr}:DA X es lI:=.of (fun _ pins s σ H Q I h=>by obtain⟨_,_,_,_,_,_,_,h,_⟩:=h;cases h)
theorem cN {e:Stmt}:DS X e c_:=.of (fun pins s σ H Q I h=>by obtain⟨_,_,_,_,_,_,_,_,h,_⟩:=h;cases h)
theorem mT {tg e:Expr}:DI X tg e mq:=.of (fun pins s σ H Q I h=>by obtain⟨_,_,_,_,_,_,_,h,_⟩:=h;cases h)
theorem fO {e:Expr}:DG X e mf:=.of (fun pins s σ H v u Q I r h=>by obtain⟨_,_,_,_,_,_,_,_,_,h,_⟩:=h;cases h)
end
def isStar:Expr->Bool
 | .Starred ..=>true
 | _=>false
def isSet:Expr->Bool
 | .Set ..=>true
 | _=>false
def sY:Expr->Bool
 | .Slice ..=>true
 | _=>false
def lS:Expr->Bool
 | .ListComp ..=>true
 | .SetComp ..=>true
 | .DictComp ..=>true
 | _=>false
def FV:Expr->Bool
 | .List ..=>true
 | _=>false
def lO:Expr->Bool
 | .Tuple ..=>true
 | _=>false
def rN:Expr->Bool
 | .Call (.Name _ _) [] [] _=>true
 | _=>false
def pf:Expr->Bool
 | .UnaryOp .Not _ _=>false
 | .BoolOp ..=>false
 | .IfExp ..=>false
 | .Compare ..=>false
 | _=>true
def GL:Expr->Bool
 | .Name ..=>true
 | .Subscript ..=>true
 | .Constant ..=>true
 | _=>false
theorem bV {e:Expr}{es:List Expr}{env:Env}(h:isStar e=false):starEach (e::es) env=(false,eval e env)::starEach es env:=by
 cases e<;>first | rfl | cases h
theorem marks {op:CmpOp}{e:Expr}(h:isSet e=false):behindInMarks op e=false:=by
 cases e<;>first | rfl | cases h
theorem plainT {e:Expr}{env:Env}(h:pf e=true):∀whole,isTrue e env whole=(do let v <- whole;standAt e.pos;holding [v] (truthy v)):=by
 intro whole
 cases e with
 | UnaryOp op a p=>cases op<;>first | rfl | cases h
 | _=>first | rfl | cases h
theorem By {e:Expr}(h:sY e=false):mJ e:=by
 intro o i
 cases e<;>first | rfl | cases h
theorem baseOk {e:Expr}{x:Str}{env:Env}(h:rN e=false):attributeBase e x env (eval e env)=eval e env:=by
 unfold attributeBase
 split
 . cases h
 . rfl
theorem pI {e:Expr}{t:Option Expr}{l:Nat}{env:Env}(h:lS e=false):swapsWith e t l env=pure false:=by
 cases e<;>first | rfl | cases h
theorem kF {e:Expr}{env:Env}(h:isSet e=false):∀x,foldedSetIterable e env x=pure x:=by
 intro x
 cases e<;>first | rfl | cases h
theorem kf {es:List Expr}{env:Env}{pos:Pos}(h:es.any isStar=false):(backTo pos (starEach es env)).any (·.1)=false:=by
 induction es with
 | nil=>rfl
 | cons e es ih =>
  rw [List.any_cons,Bool.or_eq_false_iff] at h
  rw [bV h.1]
  show(false||(backTo pos (starEach es env)).any (·.1))=false
  rw [ih h.2];rfl
theorem w5 {es:List Expr}{env:Env}{pos:Pos}(h:es.any isStar=false):(backTo pos (starEach es env)).all (fun x=>!x.1)=true:=by
 induction es with
 | nil=>rfl
 | cons e es ih =>
  rw [List.any_cons,Bool.or_eq_false_iff] at h
  rw [bV h.1]
  show(true&&(backTo pos (starEach es env)).all (fun x=>!x.1))=true
  rw [ih h.2];rfl
def iZ:List Str->Str->Option Nat
 | [],_=>none
 | y::N,x=>if y == x then some 0 else(iZ N x).map (· + 1)
theorem fP:∀{N:List Str} {x:Str} {i:Nat},iZ N x=some i->N[i]? = some x
 | [],_,_,h=>by cases h
 | y::N,x,i,h=>by
  unfold iZ at h
  split at h
  . rename_i e
    cases h
    simp [eq_of_beq e]
  . obtain⟨j,hj,rfl⟩:=Option.map_eq_some_iff.mp h
    simpa using fP hj
theorem lookup_mem {α:Type}:∀{l:List (Str×α)} {x:Str} {a:α},l.lookup x=some a->(x,a)∈l
 | [],_,_,h=>by cases h
 | (y,b)::l,x,a,h=>by
  rw [List.lookup_cons] at h
  split at h
  . rename_i e
    cases h
    rw [eq_of_beq e];exact List.mem_cons_self
  . exact List.mem_cons_of_mem _ (lookup_mem h)
def ke (x:Str):Bool:=x == ("__debug__":Str)||x == ("__classdict__":Str)||x == ("__name__":Str)
theorem vz {x:Str}(h:ke x=false):(x == ("__debug__":Str))=false/\(x == ("__classdict__":Str))=false/\x ≠ "__name__":=by
 simp only [ke,Bool.or_eq_false_iff] at h
 exact⟨h.1.1,h.1.2,fun e=>by have:=h.2;rw [e] at this;simp at this⟩
structure dZ where
 nm:Str
 fn:Fn
 ok:∀{X:Cx} {k:Nat},aC k X.A->X.calm=true->(∃id,b7 X (.builtin id) (fI X.kw fn)/\bootBuiltins nm=some (.builtin id))\/(∃T,b7 X (.type T) (fI X.kw fn)/\bootBuiltins nm=some (.type T))
structure mC where
 nm:Str
 isT:D->Bool
 m:D->List D->G->Option (D×G)
 ok:∀{X:Cx} {k:Nat},aC k X.A->∃T id,MR X T nm id isT m
def aE (E:Expr->FE):List Expr->FA
 | []=>ao
 | e::es=>if isStar e then lI else af (E e) (aE E es)
structure s_ where
 nm:Str
 tup:Bool
 f:(Expr->FE)->List Expr->FI
 ok:∀{X:Cx} {k:Nat} {E:Expr->FE} {tg:Expr} {as:List Expr} {p pos:Pos},aC k X.A->X.calm=true->X.mg nm=none->Gl X nm->(∀e,DE X e (E e))->as.any isStar=false->(tup=true->lO tg=true)->DI X tg (.Call (.Name nm p) as [] pos) (f E as)
structure mx where
 e:G0->Cs->(Expr->FE)->Bool->Expr->Option FE
 eok:∀{m:G0} {c:Cs} {X:Cx} {E:Expr->FE},Gd m c X->(∀e,DE X e (E e))->∀{rf x f},e m c E rf x=some f->DE X x f
 t:G0->Cs->(Expr->FE)->Expr->Option FT
 tok:∀{m:G0} {c:Cs} {X:Cx} {E:Expr->FE},Gd m c X->(∀e,DE X e (E e))->∀{x f},t m c E x=some f->DT X x f
structure Pk where
 bl:List dZ
 br:List dZ
 mt:List mC
 it:List s_
 xr:List mx
def wY:Const->FE
 | .int i=>fC (.int i)
 | .str x=>fC (.str x)
 | .bool b=>fC (.bl b)
 | .none=>fC .non
 | _=>b4
def zf:Option NameKind->Bool
 | some .local=>true
 | some .cell=>true
 | some .free=>true
 | _=>false
def eName (m:G0)(c:Cs)(x:Str):FE :=
 if ke x then b4 else
 match zf (c.sc.names.lookup x),iZ c.N x with
 | true,some i=>aa i
 | true,none=>b4
 | false,_=>if c.sc.names.lookup x=some .globalImplicit then(match m.cns.lookup x with | some d=>fC d | none=>match m.fns.lookup x with | some _=>fC (.fn x) | none=>b4) else b4
def Ea (op:Operator)(rf ls:Bool)(fa fb:FE):FE:=match op with
 | .Add=>aj aM fa fb
 | .Sub=>aj (aY bQ (· - ·)) fa fb
 | .Mult=>aj bM fa fb
 | .FloorDiv=>aj (aY ed (· / ·)) fa fb
 | .Mod=>aj (aY cy (· % ·)) fa fb
 | .Pow=>aj (aY cu (fun i j=>i ^ j.toNat)) fa fb
 | .LShift=>aj (aY cu (fun i j=>i*2 ^ j.toNat)) fa fb
 | .BitAnd=>aj (aY bQ Builtin.bitAnd) fa fb
 | .BitOr=>aj (aY bQ Builtin.bitOr) fa fb
 | _=>b4
def Hz (op:UnaryOp)(fa:FE):FE:=match op with
 | .USub=>uY qH fa
 | _=>b4
def bE (E:Expr->FE)(g:Bool)(op:BoolOp):List Expr->FE
 | []=>b4
 | [a]=>E a
 | a::b::r=>match op with
  | .And=>ij (E a) (bE E g .And (b::r))
  | .Or=>qX (E a) (bE E g .Or (b::r))
def GU:CmpOp->D->D->G->Option (D×G)
 | .Lt=>oLt
 | .LtE=>oLe
 | .Gt=>sv
 | .GtE=>uW
 | .Eq=>oEq
 | .NotEq=>ff
 | .Is=>rT
 | .IsNot=>bO
 | .In=>et
 | .NotIn=>cW
def mY (E:Expr->FE)(l:Expr):List CmpOp->List Expr->FE
 | [op],[b]=>if isSet b then b4 else aj (GU op) (E l) (E b)
 | _,_=>b4
def pE (E:Expr->FE):Option Expr->FO
 | none=>cP
 | some e=>cf (E e)
def yC (E:Expr->FE)(v:Expr):Expr->FE
 | .Slice lo hi none _=>cQ (E v) (pE E lo) (pE E hi)
 | .Slice lo hi (some st) _=>b4
 | s=>aj aw (E v) (E s)
def uA (m:G0)(P:Pk)(c:Cs)(rf:Bool)(E:Expr->FE)(f:Expr)(as:List Expr)(pos:Pos):FE:=match f with
 | .Name x _=>if ke x||as.any isStar then b4 else if c.sc.names.lookup x=some .globalImplicit then
   (match m.fns.lookup x with
   | some (i,_)=>au (m.T i) (aE E as)
   | none=>if as.isEmpty || !(m.nms.elem x) then b4 else match(if rf then P.br else P.bl).find? (fun r=>r.nm == x) with
    | some r=>au r.fn (aE E as)
    | none=>b4)
  else b4
 | .Attribute o x ap=>if rN o||as.any isStar || !(ap.endLine == pos.line) || !(decide (as.length<29)) then b4 else match P.mt.find? (fun r=>r.nm == x) with
  | some r=>bX r.isT r.m (E o) (aE E as)
  | none=>b4
 | _=>b4
section
variable {m:G0}{c:Cs}{X:Cx}{E:Expr->FE}
theorem Gd.hu (g:Gd m c X):X.A.units+64<cLine:=g.rm.units
theorem Gd.gl (g:Gd m c X){x:Str}(h:c.sc.names.lookup x=some .globalImplicit):Gl X x:=by
 show X.env.scope.names.lookup x=_
 rw [g.hs];exact h
theorem fg (hE:∀e,DE X e (E e)):∀es:List Expr,DA X es (aE E es)
 | []=>qd
 | e::es=>by
  unfold aE
  split
  . exact mS
  . rename_i h
    exact kq (hE e) (fg hE es) (bV (by simpa using h))
theorem vL {v:Const}{j:Nat}{p:Pos}:DE X (.Constant v j p) (wY v):=by
 cases v with
 | int i=>exact EG
 | str x=>exact Cu
 | bool b=>exact F6
 | none=>exact ES
 | _=>exact bK
theorem yz (g:Gd m c X){x:Str}{p:Pos}:DE X (.Name x p) (eName m c x):=by
 unfold eName
 split
 . exact bK
 rename_i ho
 obtain⟨o1,o2,_⟩:=vz (by simpa using ho)
 split
 . rename_i i hv hi
   refine Ck i (by rw [g.hN];exact fP hi) ?_ o1 o2
   rw [g.hs]
   unfold zf at hv
   split at hv
   . rename_i e;exact .inl e
   . rename_i e;exact .inr (.inl e)
   . rename_i e;exact .inr (.inr e)
   . cases hv
 . exact bK
 . split
   . rename_i hg
     split
     . rename_i d hd
       obtain⟨v,u,h1,h2,h3⟩:=g.cn x d (lookup_mem hd)
       exact Af (g.gl hg) h1 h2 h3 o1
     . split
       . rename_i y hy
         obtain⟨i,n⟩:=y
         obtain⟨f,fd,ps,_,hm,_⟩:=g.fn x i n (lookup_mem hy)
         exact .of (PE.imp (sh (v:=.ref f) (g.gl hg) hm rfl o1) fun σ H Q h=>by
          obtain⟨ι,σd,g1,d,g',G0,S0,h,p⟩:=h
          cases h
          exact p H ι _ Ext.refl G0 (by simp only [Rel];exact⟨f,rfl,hm⟩))
       . exact bK
   . exact bK
theorem Bf {op:Operator}{rf ls:Bool}{a b:Expr}{p:Pos}{fa fb:FE}(ha:DE X a fa)(hb:DE X b fb):DE X (.BinOp a op b p) (Ea op rf ls fa fb):=by
 cases op<;>first | exact bK | skip
 . exact gM DP ha hb
 . exact gM BU ha hb
 . exact gM Cg ha hb
 . exact gM Es ha hb
 . exact gM C9 ha hb
 . exact gM C5 ha hb
 . exact gM FH ha hb
 . exact gM B2 ha hb
 . exact gM Av ha hb
theorem B_ {op:UnaryOp}{a:Expr}{p:Pos}{fa:FE}(ha:DE X a fa):DE X (.UnaryOp op a p) (Hz op fa):=by
 cases op with
 | USub=>exact GO B7 ha
 | _=>exact bK
theorem zl (hE:∀e,DE X e (E e)){gf:Bool}{op:BoolOp}{p:Pos}:∀es:List Expr,DE X (.BoolOp op es p) (bE E gf op es)
 | []=>bK
 | [a]=>B5 (hE a)
 | a::b::r=>by
  have ih:=zl hE (gf:=gf) (op:=op) (p:=p) (b::r)
  cases op<;>cases gf
  . exact vo (hE a) ih
  . exact vo (hE a) ih
  . exact yX (hE a) ih
  . exact yX (hE a) ih
theorem vx (hu:X.A.units+64<cLine):∀op:CmpOp,bw X (compareOp op) (cA X.kw (GU op))
 | .Lt=>FK
 | .LtE=>FW
 | .Gt=>FQ
 | .GtE=>F7
 | .Eq=>FP hu
 | .NotEq=>D_ hu
 | .Is=>Gh
 | .IsNot=>Bh
 | .In=>Df hu
 | .NotIn=>vS hu
theorem Ah (hu:X.A.units+64<cLine)(hE:∀e,DE X e (E e)){l:Expr}{ops:List CmpOp}{rs:List Expr}{p:Pos}:DE X (.Compare l ops rs p) (mY E l ops rs):=by
 unfold mY
 split
 . split
   . exact bK
   . rename_i h
     exact uX (vx hu _) (hE _) (hE _) (marks (by simpa using h))
 . exact bK
theorem Az (hu:X.A.units+64<cLine)(hE:∀e,DE X e (E e)){l:Expr}{ops:List CmpOp}{rs:List Expr}{p:Pos}:DT X (.Compare l ops rs p) (az (mY E l ops rs)):=by
 have none_:DT X (.Compare l ops rs p) (az b4):=.of (fun pins s σ H Q I h=>by obtain⟨_,_,_,_,_,_,_,h,_⟩:=h;cases h)
 unfold mY
 split
 . split
   . exact none_
   . rename_i h
     exact wB (vx hu _) (hE _) (hE _) (marks (by simpa using h))
 . exact none_
theorem y8 (hE:∀e,DE X e (E e)):∀o:Option Expr,DO X o (pE E o)
 | none=>Bu
 | some e=>Aj (hE e)
theorem BB (hu:X.A.units+64<cLine)(hE:∀e,DE X e (E e)){v s:Expr}{p:Pos}:DE X (.Subscript v s p) (yC E v s):=by
 unfold yC
 split
 . exact uP (hE _) (y8 hE _) (y8 hE _)
 . exact bK
 . rename_i h1 h2
   refine BZ hu (hE _) (hE _) (By ?_)
   cases s with
   | Slice lo hi st q =>
    cases st with
    | none=>exact absurd rfl (h1 _ _ _)
    | some e=>exact absurd rfl (h2 _ _ _ _)
   | _=>rfl
theorem xC (P:Pk){rf:Bool}(g:Gd m c X)(hE:∀e,DE X e (E e)){f:Expr}{as:List Expr}{pos:Pos}:DE X (.Call f as [] pos) (uA m P c rf E f as pos):=by
 unfold uA
 split
 . rename_i x p
   split
   . exact bK
   rename_i h
   simp only [Bool.or_eq_true,not_or,Bool.not_eq_true] at h
   obtain⟨o1,o2,o3⟩:=vz h.1
   have hst:=h.2
   split
   . rename_i hg
     split
     . rename_i i n hf
       obtain⟨fa,fd,ps,ok,hm,kp,b,ln⟩:=g.fn x i n (lookup_mem hf)
       cases as with
       | nil=>exact w6 ok g.rm hm kp b ln (g.gl hg) o1
       | cons e es =>
         rw [List.any_cons,Bool.or_eq_false_iff] at hst
         exact Bd ok g.rm hm kp b ln (fg hE _) (g.gl hg) o1 (bV hst.1) (kf hst.2)
     . split
       . exact bK
       rename_i hb
       simp only [Bool.or_eq_true,not_or,Bool.not_eq_true,Bool.not_eq_false',Bool.not_eq_true'] at hb
       split
       . rename_i r hr
         have hn:r.nm=x:=by have:=List.find?_some hr;exact eq_of_beq this
         have hx:x∈m.nms:=List.elem_iff.mp (by simpa using hb.2)
         cases as with
         | nil=>simp at hb
         | cons e es =>
          rw [List.any_cons,Bool.or_eq_false_iff] at hst
          rcases r.ok g.rm g.cm with⟨id,h1,h2⟩ | ⟨T,h1,h2⟩
          . rw [hn] at h2
            exact yA h1 (g.bl x hx) h2 (fg hE _) (g.gl hg) o3 o1 (bV hst.1) (kf hst.2)
          . rw [hn] at h2
            exact vI h1 (g.bl x hx) h2 (fg hE _) (g.gl hg) o3 o1 (bV hst.1) (kf hst.2)
       . exact bK
   . exact bK
 . rename_i o x ap
   split
   . exact bK
   rename_i h
   simp only [Bool.or_eq_true,not_or,Bool.not_eq_true,Bool.not_eq_true',Bool.not_eq_false',decide_eq_false_iff_not,Classical.not_not] at h
   obtain⟨⟨⟨h1,h2⟩,h3⟩,h4⟩:=h
   split
   . rename_i r hr
     have hn:r.nm=x:=by have:=List.find?_some hr;exact eq_of_beq this
     obtain⟨T,id,R⟩:=r.ok g.rm
     rw [hn] at R
     cases as with
     | nil=>exact Ab R (hE o) (baseOk h1) (by simpa using h3)
     | cons e es =>
       rw [List.any_cons,Bool.or_eq_false_iff] at h2
       refine ER R (hE o) (fg hE _) (baseOk h1) ?_ (by simpa using h3) (bV h2.1) (kf h2.2)
       rw [w5 (by rw [List.any_cons,h2.1,h2.2];rfl)]
       have h5:decide ((e::es).length+([]:List Keyword).length+(if([]:List Keyword).isEmpty then 0 else 1)<30)=true:=by simp at h4 ⊢;omega
       rw [h5];rfl
   . exact bK
 . exact bK
end
def pd (c:Cs)(x:Str):Option Nat:=match c.sc.names.lookup x with
 | some .local=>iZ c.N x
 | some .cell=>if c.all then iZ c.N x else none
 | _=>none
def xW (f:Expr->FG):List Expr->kM
 | []=>aK
 | e::es=>aq (f e) (xW f es)
def gS (c:Cs)(E:Expr->FE):Nat->Expr->FG
 | _,.Name x _=>match pd c x with | some i=>gN i | none=>mf
 | _,.Subscript o i _=>if sY i then mf else dB (E o) (E i)
 | n+1,.Tuple es _ _=>if es.any isStar then mf else gT es.length (xW (gS c E n) es)
 | _,_=>mf
section
variable {m:G0}{c:Cs}{X:Cx}{E:Expr->FE}
theorem kE (g:Gd m c X){x:Str}{i:Nat}(h:pd c x=some i):X.N[i]? = some x/\Loc X.env.scope x/\(X.fn x=true\/X.env.scope.names.lookup x=some .local):=by
 unfold pd at h
 rw [g.hN,g.hs]
 split at h
 . rename_i e;exact⟨fP h,.inl e,.inr e⟩
 . rename_i e
   split at h
   . rename_i ha;exact⟨fP h,.inr e,.inl (g.al ha x)⟩
   . cases h
 . cases h
theorem Gd.pQ (g:Gd m c X):X.N.Nodup:=by rw [g.hN];exact g.nd
theorem lD {e:Expr}{es:List Expr}{env:Env}(h:isStar e=false):assignEach (e::es) env=(false,assign e env)::assignEach es env:=by
 cases e<;>first | rfl | cases h
theorem rV {es:List Expr}{env:Env}(h:es.any isStar=false):(assignEach es env).length=es.length/\(assignEach es env).findIdx? (·.1)=none:=by
 induction es with
 | nil=>exact⟨rfl,rfl⟩
 | cons e es ih =>
  rw [List.any_cons,Bool.or_eq_false_iff] at h
  obtain⟨a,b⟩:=ih h.2
  rw [lD h.1]
  exact⟨by simp [a],by rw [List.findIdx?_cons,b];rfl⟩
theorem rQ {o i:Expr}{pos:Pos}{env:Env}(h:sY i=false):∀v,assign (.Subscript o i pos) env v=(do
  let ov <- holding [v] (eval o env)
  let iv <- holding [v,ov] (eval i env)
  standAt pos
  holding [v,ov,iv] (setItem ov iv v)
  release [v,ov,iv] []):=by
 intro v
 cases i<;>first | rfl | cases h
theorem jJ (g:Gd m c X)(hE:∀e,DE X e (E e)):∀(n:Nat) (e:Expr),DG X e (gS c E n e):=by
 intro n
 induction n with
 | zero =>
  intro e
  unfold gS
  split
  . split
    . rename_i i h;obtain⟨a,b,d⟩:=kE g h;exact rO g.pQ a b d
    . exact fO
  . split
    . exact fO
    . rename_i h;exact rR g.hu (hE _) (hE _) (rQ (by simpa using h))
  . rename_i h;cases h
  . exact fO
 | succ n ih =>
  intro e
  unfold gS
  split
  . split
    . rename_i i h;obtain⟨a,b,d⟩:=kE g h;exact rO g.pQ a b d
    . exact fO
  . split
    . exact fO
    . rename_i h;exact rR g.hu (hE _) (hE _) (rQ (by simpa using h))
  . rename_i n' es kt tp hn
    cases hn
    split
    . exact fO
    . rename_i hs
      have hs:es.any isStar=false:=by simpa using hs
      have hg:∀es:List Expr,es.any isStar=false->u9 X es (xW (gS c E n) es):=fun es=>by
       induction es with
       | nil=>exact fun _=>AH
       | cons e es ih2 =>
        intro h
        rw [List.any_cons,Bool.or_eq_false_iff] at h
        exact yu (ih e) (ih2 h.2) (by rw [lD h.1];rfl)
      have hg:=hg es hs
      exact Fl g.cm hg (rV hs).1 (rV hs).2
  . exact fO
end
def vO (m:G0)(P:Pk)(c:Cs)(E:Expr->FE)(tg:Expr)(it:Expr):FI:=match it with
 | .Call (.Name x _) as [] _=>if c.sc.names.lookup x=some .globalImplicit then(match P.it.find? (fun r=>r.nm == x) with
  | some r=>if m.nms.elem x && !(as.any isStar)&&(!r.tup||lO tg) then r.f E as else mq
  | none=>b_ (E it)) else b_ (E it)
 | it=>b_ (E it)
theorem p9 {m:G0}{c:Cs}{X:Cx}{E:Expr->FE}(P:Pk)(g:Gd m c X)(hE:∀e,DE X e (E e)){tg it:Expr}:DI X tg it (vO m P c E tg it):=by
 unfold vO
 split
 . rename_i x p as pos
   split
   . rename_i hg
     split
     . rename_i r hr
       have hn:r.nm=x:=by have:=List.find?_some hr;exact eq_of_beq this
       split
       . rename_i h
         simp only [Bool.and_eq_true,Bool.or_eq_true,Bool.not_eq_true',beq_iff_eq] at h
         obtain⟨⟨h1,h2⟩,h4⟩:=h
         have hx:x∈m.nms:=List.elem_iff.mp h1
         subst hn
         exact r.ok g.rm g.cm (g.bl _ hx) (g.gl hg) hE h2 (fun z=>by rcases h4 with h4 | h4;(rw [z] at h4;cases h4);exact h4)
       . exact mT
     . exact qO (hE _)
   . exact qO (hE _)
 . exact qO (hE _)
def BV (sc:Scope)(S:Scope):Scope:={ sc with names:=sc.names.map fun(n,k)=>if(k == .free&&S.kind == .function&&S.names.lookup n == some .cell) then(n,.cell) else(n,k) }
def sX:List Str->Bool
 | []=>true
 | x::r=>!(r.elem x)&&sX r
theorem pV:∀{l:List Str},sX l=true->l.Nodup
 | [],_=>List.nodup_nil
 | x::r,h=>by
  simp only [sX,Bool.and_eq_true,Bool.not_eq_true'] at h
  exact List.nodup_cons.mpr (And.intro (fun z=>(by rw [List.elem_iff.mpr z] at h;exact absurd h.1 (by simp))) (pV h.2))
def iB (sc:Scope):List Str:=(sc.names.filter fun y=>y.2 == .local).map (·.1)
def fT (sc:Scope):List Str:=(sc.names.filter fun y=>y.2 == .free).map (·.1)
def cH (c:Cs)(sc:Scope):Cs:=⟨iB sc++fT sc,BV sc c.sc,false,c.mt⟩
def lg (c:Cs)(sc:Scope):List (Option Nat):=(iB sc).map (fun _=>none)++(fT sc).map (fun x=>iZ c.N x)
def iD (c:Cs)(sc:Scope):Bool:=mK c.sc c.N (iB sc++fT sc) (lg c sc) sc&&sX (iB sc++fT sc)
def pN (T:Expr->FT):List Expr->FT
 | []=>bC
 | [t]=>T t
 | _=>jP
def qm (c:Cs):Expr->Bool
 | .Name x _=>c.mt.elem x
 | _=>false
def BJ (c:Cs):Expr->Bool
 | .Name x _=>c.mt.elem (Str.ofString "*" ++ x)
 | _=>false
def oD (m:G0)(P:Pk)(c:Cs)(rf:Bool)(E:Cs->Expr->FE)(T:Cs->Expr->FT)(elt:Expr)(gs:List Comprehension)(sc:Scope):FE:=match gs with
 | [⟨tg,it,ifs,0⟩]=>if iD c sc && !(isSet it) then
  (if BJ c it then(if rf then b4 else iN bB (kX (E c it)) (lg c sc) (gS (cH c sc) (E (cH c sc)) 3 tg) (pN (T (cH c sc)) ifs) (E (cH c sc) elt))
  else if qm c it then da bB (gq (E c it)) (lg c sc) (gS (cH c sc) (E (cH c sc)) 3 tg) (pN (T (cH c sc)) ifs) (E (cH c sc) elt)
  else bU bB (vO m P c (E c) tg it) (lg c sc) (gS (cH c sc) (E (cH c sc)) 3 tg) (pN (T (cH c sc)) ifs) (E (cH c sc) elt)) else b4
 | _=>b4
section
variable {m:G0}{c:Cs}{X:Cx}
theorem Gd.comp (g:Gd m c X){sc:Scope}(h:sX (iB sc++fT sc)=true){C:Addr}{s3:Shared}{H:Hp}{fp:List Addr}{pins:List (Addr×Obj)}:Gd m (cH c sc) (aW X (iB sc++fT sc) sc C s3 H fp pins) where
 hN:=rfl
 hs:=by
  show relabel sc X.env=BV sc c.sc
  rw [<- g.hs];rfl
 nd:=pV h
 xe:=rfl
 cm:=g.cm
 rm:=g.rm
 al:=fun z=>by cases z
 fn:=fun x i n hm=>by
  obtain⟨f,fd,ps,a,b,d,e,l⟩:=g.fn x i n hm
  exact⟨f,fd,ps,a,b,d,e,l⟩
 bl:=g.bl
 cn:=g.cn
 dc:=g.dc
theorem Ce {T:Expr->FT}(hT:∀e,DT X e (T e)):∀ifs:List Expr,dY X ifs (pN T ifs)
 | []=>xR
 | [t]=>xh (hT t)
 | _::_::_=>.of (fun pins s σ H Q I h=>by obtain⟨_,_,_,_,_,_,_,h,_⟩:=h;cases h)
theorem rW (g:Gd m c X){E:Cs->Expr->FE}{T:Cs->Expr->FT}(hE:∀c X,Gd m c X->∀e,DE X e (E c e))(hT:∀c X,Gd m c X->∀e,DT X e (T c e)){sc:Scope}(h:iD c sc=true){tg elt:Expr}{ifs:List Expr} :
  dq X (iB sc++fT sc) (lg c sc) sc /\ ∀C s3 H fp pins,DG (aW X (iB sc++fT sc) sc C s3 H fp pins) tg (gS (cH c sc) (E (cH c sc)) 3 tg) /\
   dY (aW X (iB sc++fT sc) sc C s3 H fp pins) ifs (pN (T (cH c sc)) ifs)/\DE (aW X (iB sc++fT sc) sc C s3 H fp pins) elt (E (cH c sc) elt):=by
 simp only [iD,Bool.and_eq_true] at h
 refine⟨wu g.hs g.hN h.1,fun C s3 H fp pins=>?_⟩
 have g':=g.comp h.2 (C:=C) (s3:=s3) (H:=H) (fp:=fp) (pins:=pins)
 exact⟨jJ g' (hE _ _ g') 3 tg,Ce (hT _ _ g') ifs,hE _ _ g' elt⟩
theorem qr (P:Pk)(g:Gd m c X){rf:Bool}{E:Cs->Expr->FE}{T:Cs->Expr->FT}(hE:∀c X,Gd m c X->∀e,DE X e (E c e))(hT:∀c X,Gd m c X->∀e,DT X e (T c e)){elt:Expr}{gs:List Comprehension}{sc:Scope}{p:Pos} :
   DE X (.ListComp elt gs sc p) (oD m P c rf E T elt gs sc):=by
 unfold oD
 split
 . rename_i tg it ifs
   split
   . rename_i h
     simp only [Bool.and_eq_true,Bool.not_eq_true'] at h
     obtain⟨ok,hin⟩:=rW g hE hT h.1 (tg:=tg) (elt:=elt) (ifs:=ifs)
     split
     . split
       . exact bK
       . exact x8 g.xe g.cm ok (AV (hE c X g it)) hin (kF h.2)
     split
     . exact xB g.xe g.cm ok (sO (hE c X g it)) hin (kF h.2)
     . exact AZ g.xe g.cm ok (p9 P g (hE c X g)) hin (kF h.2)
   . exact bK
 . exact bK
end
def tB (T:Expr->FT)(op:BoolOp):List Expr->FT
 | []=>jP
 | [a]=>T a
 | a::b::r=>match op with
  | .And=>cL (T a) (tB T .And (b::r))
  | .Or=>ib (T a) (tB T .Or (b::r))
def xE (P:Pk)(m:G0)(c:Cs)(E:Expr->FE)(rf:Bool)(e:Expr):Option FE:=P.xr.findSome? fun r=>r.e m c E rf e
def xT (P:Pk)(m:G0)(c:Cs)(E:Expr->FE)(e:Expr):Option FT:=P.xr.findSome? fun r=>r.t m c E e
def zw (m:G0)(P:Pk)(E:Cs->Bool->Expr->FE)(T:Cs->Expr->FT)(c:Cs)(rf:Bool):Expr->FE
 | .Constant v _ _=>wY v
 | .Name x _=>eName m c x
 | .BinOp a op b _=>Ea op rf (FV a) (E c false a) (E c false b)
 | .UnaryOp op a _=>Hz op (E c false a)
 | .BoolOp op vs _=>bE (E c false) (vs.dropLast.any GL) op vs
 | .IfExp t a b _=>pM (T c t) (E c rf a) (E c rf b)
 | .Compare l ops rs _=>mY (E c false) l ops rs
 | .Tuple es _ _=>aG aD (aE (E c false) es)
 | .List es _=>aG (if rf then mkRef else b8) (aE (E c false) es)
 | .Dict [] [] _=>if rf then gI else fC .edc
 | .Subscript v s _=>yC (E c false) v s
 | .Call f as [] pos=>uA m P c rf (E c false) f as pos
 | .ListComp elt gs sc _=>oD m P c rf (fun c e=>E c false e) T elt gs sc
 | _=>b4
def zr (m:G0)(P:Pk)(E:Cs->Bool->Expr->FE)(T:Cs->Expr->FT)(c:Cs):Expr->FT
 | .Compare l ops rs _=>az (mY (E c false) l ops rs)
 | .UnaryOp .Not a _=>gR (T c a)
 | .BoolOp op vs _=>tB (T c) op vs
 | e=>if pf e then dg (E c false e) else jP
def tf (m:G0)(P:Pk)(E:Cs->Bool->Expr->FE)(T:Cs->Expr->FT)(c:Cs)(rf:Bool)(e:Expr):FE:=match xE P m c (E c false) rf e with
 | some f=>f
 | none=>zw m P E T c rf e
def stepT (m:G0)(P:Pk)(E:Cs->Bool->Expr->FE)(T:Cs->Expr->FT)(c:Cs)(e:Expr):FT:=match xT P m c (E c false) e with
 | some f=>f
 | none=>zr m P E T c e
def iv (m:G0)(P:Pk):Nat->(Cs->Bool->Expr->FE)×(Cs->Expr->FT)
 | 0=>(fun _ _ _=>b4,fun _ _=>jP)
 | n+1=>(tf m P (iv m P n).1 (iv m P n).2,stepT m P (iv m P n).1 (iv m P n).2)
section
variable {m:G0}{X:Cx}
theorem hJ {α β:Type}{f:α->Option β}:∀{l:List α} {b:β},l.findSome? f=some b->∃a∈l,f a=some b
 | [],_,h=>by cases h
 | a::l,b,h=>by
  rw [List.findSome?_cons] at h
  cases ha:f a with
  | none=>rw [ha] at h;obtain⟨x,hx,e⟩:=hJ h;exact⟨x,List.mem_cons_of_mem _ hx,e⟩
  | some c=>rw [ha] at h;cases h;exact⟨a,List.mem_cons_self,ha⟩
theorem Fw {T:Expr->FT}(hT:∀e,DT X e (T e)){op:BoolOp}{p:Pos}:∀es:List Expr,DT X (.BoolOp op es p) (tB T op es):=by
 have w:∀es:List Expr,es ≠ []->DW X (.BoolOp op es p) (tB T op es):=fun es=>by
  induction es with
  | nil=>intro h;exact absurd rfl h
  | cons a r ih =>
   intro _
   cases r with
   | nil=>cases op;exact z7 (hT a);exact Fg (hT a)
   | cons b r =>
    have:=ih (by simp)
    cases op
    . exact EE (hT a) this
    . exact Gk (hT a) this
 intro es
 cases es with
 | nil=>exact m9
 | cons a r=>exact(w (a::r) (by simp)).dt
theorem y4 (m:G0)(P:Pk):∀n:Nat,(∀c X,Gd m c X->∀rf e,DE X e ((iv m P n).1 c rf e))/\(∀c X,Gd m c X->∀e,DT X e ((iv m P n).2 c e))
 | 0=>⟨fun _ _ _ _ _=>bK,fun _ _ _ _=>m9⟩
 | n+1=>by
  obtain⟨hE,hT⟩:=y4 m P n
  refine⟨fun c X g rf e=>?_,fun c X g e=>?_⟩
  . show DE X e (tf m P (iv m P n).1 (iv m P n).2 c rf e)
    unfold tf
    split
    . rename_i f hf
      obtain⟨r,_,h⟩:=hJ hf
      exact r.eok g (hE c X g false) h
    have hE1:=hE c X g false
    unfold zw
    split
    . exact vL
    . exact yz g
    . exact Bf (hE1 _) (hE1 _)
    . exact B_ (hE1 _)
    . exact zl hE1 _
    . exact El (hT c X g _) (hE c X g rf _) (hE c X g rf _)
    . exact Ah g.hu hE1
    . exact wz (fg hE1 _)
    . cases rf
      . exact Dq (fg hE1 _)
      . exact wt (fg hE1 _)
    . cases rf
      . exact yb
      . exact AJ
    . exact BB g.hu hE1
    . exact xC P g hE1
    . exact qr P g (fun c X g e=>hE c X g false e) hT
    . exact bK
  . show DT X e (stepT m P (iv m P n).1 (iv m P n).2 c e)
    unfold stepT
    split
    . rename_i f hf
      obtain⟨r,_,h⟩:=hJ hf
      exact r.tok g (hE c X g false) h
    unfold zr
    split
    . exact Az g.hu (hE c X g false)
    . exact Et (hT c X g _)
    . exact Fw (hT c X g) _
    . split
      . rename_i h;exact D2 (hE c X g false _) (plainT h)
      . exact m9
end
def zK (f:Stmt->FS):List Stmt->FS
 | []=>aR
 | [s]=>f s
 | s::t::r=>ax (f s) (zK f (t::r))
def uL (S:Scope):Bool:=(if S.kind.isAnnotationScope then ScopeKind.function else S.kind) == .function
def uz (S:Scope)(x:Str)(px p:Pos)(sc:Scope):Bool:=uL S&&S.names.lookup x == some .local&&px.line == p.line && !(sc.names.any fun(n,k)=>n == x&&(k == .local||k == .cell))
def CS (mt:List Str):Expr->Bool
 | .Name x _=>mt.elem x
 | _=>false
def aZ (E:Bool->Expr->FE)(mt:List Str):List Expr->List Expr->FA
 | _,[]=>ao
 | [],v::vs=>if isStar v then lI else af (E false v) (aZ E mt [] vs)
 | t::ts,v::vs=>if isStar v then lI else af (E (CS mt t) v) (aZ E mt ts vs)
def y7 (m:G0)(P:Pk)(c:Cs)(rf:Bool)(E:Cs->Expr->FE)(T:Cs->Expr->FT)(elt:Expr)(gs:List Comprehension)(sc:Scope):FE:=match gs with
 | [⟨tg,it,ifs,0⟩]=>if iD c sc && !(isSet it) then
  (if qm c it then da bB (gq (E c it)) (lg c sc) (gS (cH c sc) (E (cH c sc)) 3 tg) (pN (T (cH c sc)) ifs) (E (cH c sc) elt)
  else bU bB (vO m P c (E c) tg it) (lg c sc) (gS (cH c sc) (E (cH c sc)) 3 tg) (pN (T (cH c sc)) ifs) (E (cH c sc) elt)) else b4
 | _=>b4
def lR (S:Scope)(ts:List Expr):List Str:=ts.filterMap fun
 | .Name id pos=>if S.names.lookup id == some .local&&pos.line == (ts.head?.map (·.pos.line)).getD 0 then some id else none
 | _=>none
def DR (S:Scope)(ts vs:List Expr):Option Bool :=
 if !(ts.length == 2||ts.length == 3)||vs.length != ts.length || !(uL S) then some false
 else if(lR S ts).length != ts.length||(lR S ts).eraseDups.length != (lR S ts).length then some false
 else if vs.all (foldedForSure 8) then some false
 else if vs.all (constantsAlone 8) then none
 else some true
def oR (c:Cs)(x:Str):Bool:=c.sc.names.lookup x == some .local
def xI (m:G0)(P:Pk)(E:Cs->Bool->Expr->FE)(T:Cs->Expr->FT)(c:Cs)(tg v:Expr):FS:=match tg,v with
 | .Name x px,.ListComp elt gs sc p=>(match pd c x with
  | some i=>aA (if uz c.sc x px p sc then y7 m P c (c.mt.elem x) (fun c e=>E c false e) T elt gs sc else oD m P c (c.mt.elem x) (fun c e=>E c false e) T elt gs sc) (gN i)
  | none=>c_)
 | .Name x px,v=>(match pd c x with
  | some i=>if lS v then c_ else aA (E c (c.mt.elem x) v) (gN i)
  | none=>c_)
 | .Tuple ts kt pt,.Tuple vs _ _=>if vs.any isStar then c_ else(match DR c.sc ts vs with
  | some false=>aA (aG aD (aZ (E c) c.mt ts vs)) (gS c (E c false) 3 (.Tuple ts kt pt))
  | some true=>(match ts,vs with
   | [.Name x _,.Name y _],[a,b]=>(match iZ c.N x,iZ c.N y with | some i,some j=>if lR c.sc ts == [x,y]&&oR c x&&oR c y && !(i == j) then lr i j (aZ (E c) c.mt ts [a,b]) else c_ | _,_=>c_)
   | _,_=>c_)
  | none=>c_)
 | .Subscript o i q,v=>aA (E c false v) (gS c (E c false) 3 (.Subscript o i q))
 | tg,v=>if lS v||lO v||isStar tg then c_ else aA (E c false v) (gS c (E c false) 3 tg)
def xx (m:G0)(P:Pk)(W:Nat)(kp:Bool)(E:Cs->Bool->Expr->FE)(T:Cs->Expr->FT)(B:List Stmt->FS)(c:Cs):Stmt->FS
 | .Return (some e) _=>aQ (E c kp e)
 | .If t a b _=>bH (T c t) (B a) (B b)
 | .Assign [tg] v _=>xI m P E T c tg v
 | .For tg it body [] _=>if isSet it then c_ else cI (vO m P c (E c false) tg it) (gS c (E c false) 3 tg) (B body)
 | .While t body [] _=>iE W (T c t) (B body)
 | .Pass _=>aR
 | .Continue _=>t9
 | .Expr (.Constant (.str _) _ _) _=>aR
 | .Expr e _=>if lS e then c_ else cc (E c false e)
 | _=>c_
def sS (m:G0)(P:Pk)(W:Nat)(kp:Bool)(E:Cs->Bool->Expr->FE)(T:Cs->Expr->FT)(c:Cs):Nat->Stmt->FS
 | 0,_=>c_
 | n+1,s=>xx m P W kp E T (zK (sS m P W kp E T c n)) c s
def body (m:G0)(P:Pk)(W:Nat)(kp:Bool)(c:Cs)(sts:List Stmt):FS:=zK (sS m P W kp (iv m P 30).1 (iv m P 30).2 c 12) sts
section
variable {m:G0}{c:Cs}{X:Cx}
theorem pF {f:Stmt->FS}(h:∀s,DS X s (f s)):∀sts:List Stmt,jn X sts (zK f sts)
 | []=>zV
 | [s]=>A2 (h s)
 | s::t::r=>yg (h s) (pF h (t::r))
theorem oQ {E:Bool->Expr->FE}{mt:List Str}(hE:∀rf e,DE X e (E rf e)):∀(ts vs:List Expr),DA X vs (aZ E mt ts vs)
 | _,[]=>by cases ‹List Expr›<;>exact qd
 | [],v::vs=>by
  unfold aZ
  split
  . exact mS
  . rename_i h;exact kq (hE _ v) (oQ hE [] vs) (bV (by simpa using h))
 | t::ts,v::vs=>by
  unfold aZ
  split
  . exact mS
  . rename_i h;exact kq (hE _ v) (oQ hE ts vs) (bV (by simpa using h))
theorem rK (g:Gd m c X){elt:Expr}{gs:List Comprehension}{sc:Scope}{p px:Pos}{x:Str}{l:Nat}:swapsWith (.ListComp elt gs sc p) (some (.Name x px)) l X.env=pure (uz c.sc x px p sc):=by
 rw [<- g.hs];rfl
theorem HB {ts vs:List Expr}{kt k2:Nat}{pt gW:Pos}{r:Bool}(g:Gd m c X)(hv:vs.any isStar=false)(h:DR c.sc ts vs=some r):swappedStores [.Tuple ts kt pt] (.Tuple vs k2 gW) X.env=pure (if r then some (lR c.sc ts) else none):=by
 have hst:(vs.any fun | .Starred ..=>true | _=>false)=false:=by
   have:(fun(e:Expr)=>match e with | .Starred ..=>true | _=>false)=isStar:=by funext e;cases e<;>rfl
   rw [this];exact hv
 have hfk:(X.env.blockKind != ScopeKind.function) = !(uL c.sc):=by rw [<- g.hs];rfl
 unfold DR at h
 show(if(!(ts.length == 2||ts.length == 3)||vs.length != ts.length||X.env.blockKind != ScopeKind.function)=true then pure none else if(vs.any fun | .Starred ..=>true | _=>false)=true then pure none else
   if((lR X.env.scope ts).length != ts.length||(lR X.env.scope ts).eraseDups.length != (lR X.env.scope ts).length)=true then pure none else if vs.all (foldedForSure 8)=true then pure none else if vs.all (constantsAlone 8)=true then _ else pure (some (lR X.env.scope ts)))=_
 rw [hfk,hst,g.hs]
 split at h
 . rename_i h1;cases h;rw [if_pos h1];rfl
 rename_i h1
 rw [if_neg h1,if_neg (by simp)]
 split at h
 . rename_i h2;cases h;rw [if_pos h2];rfl
 rename_i h2
 rw [if_neg h2]
 split at h
 . rename_i h3;cases h;rw [if_pos h3];rfl
 rename_i h3
 rw [if_neg h3]
 split at h
 . cases h
 rename_i h4
 cases h
 rw [if_neg h4];rfl
theorem H_ {tg v:Expr}{env:Env}(h:lO v=false):swappedStores [tg] v env=pure none:=by
 cases v<;>first | (cases tg<;>rfl) | cases h
theorem rX {tg:Expr}{env:Env}(h:isStar tg=false):(assignEach [tg] env).map (·.2) = [assign tg env]:=by
 rw [lD h];rfl
theorem yo {o i v:Expr}{q:Pos}{l:Nat}{env:Env}:swapsWithSole [.Subscript o i q] v l env=pure false:=by cases v<;>rfl
theorem DB {o i v:Expr}{q:Pos}{env:Env}:swappedStores [.Subscript o i q] v env=pure none:=by cases v<;>rfl
theorem Aa (P:Pk)(g:Gd m c X){E:Cs->Bool->Expr->FE}{T:Cs->Expr->FT}(hE:∀c X,Gd m c X->∀rf e,DE X e (E c rf e))(hT:∀c X,Gd m c X->∀e,DT X e (T c e)){tg v:Expr}{p:Pos}:DS X (.Assign [tg] v p) (xI m P E T c tg v):=by
 have isl:∀{x:Str},oR c x=true->X.env.scope.names.lookup x=some .local:=fun {x} h=>by
   rw [g.hs];exact eq_of_beq h
 unfold xI
 split
 . rename_i x px elt gs sc q
   split
   . rename_i i hi
     obtain⟨a,b,d⟩:=kE g hi
     split
     . rename_i hsw
       unfold y7
       split
       . rename_i tg it ifs
         split
         . rename_i h
           simp only [Bool.and_eq_true,Bool.not_eq_true'] at h
           obtain⟨ok,hin⟩:=rW g (fun c X g e=>hE c X g false e) hT h.1 (tg:=tg) (elt:=elt) (ifs:=ifs)
           have hs:=(rK g (elt:=elt) (gs:=[⟨tg,it,ifs,0⟩]) (sc:=sc) (p:=q) (px:=px) (x:=x) (l:=p.line)).trans (by rw [hsw])
           split
           . exact qK g.xe g.cm ok (sO (hE c X g false it)) hin g.pQ a b hs (kF h.2) d
           . exact tT g.xe g.cm ok (p9 P g (hE c X g false)) hin g.pQ a b hs (kF h.2) d
         . exact .of (fun pins s σ H Q I h=>by obtain⟨_,_,_,_,_,_,_,_,h,_⟩:=h;cases h)
       . exact .of (fun pins s σ H Q I h=>by obtain⟨_,_,_,_,_,_,_,_,h,_⟩:=h;cases h)
     . rename_i hsw
       exact vC g.pQ a b (qr P g (fun c X g e=>hE c X g false e) hT) ((rK g).trans (by rw [show uz c.sc x px q sc=false by simpa using hsw])) d
   . exact cN
 . rename_i x px _
   split
   . rename_i i hi
     obtain⟨a,b,d⟩:=kE g hi
     split
     . exact cN
     . rename_i h
       exact vC g.pQ a b (hE c X g _ _) (pI (by simpa using h)) d
   . exact cN
 . rename_i ts kt pt vs k2 gW
   split
   . exact cN
   rename_i hv
   have hv:vs.any isStar=false:=by simpa using hv
   have sole:∀l,swapsWithSole [.Tuple ts kt pt] (.Tuple vs k2 gW) l X.env=pure false:=fun _=>rfl
   split
   . rename_i hp
     exact qY (wz (oQ (hE c X g) ts vs)) (jJ g (hE c X g false) 3 _) (sole _) (HB g hv hp) rfl
   . rename_i hp
     split
     . rename_i x px y py a b
       split
       . rename_i i j hi hj
         split
         . rename_i h
           simp only [Bool.and_eq_true,Bool.not_eq_true',beq_iff_eq] at h
           obtain⟨⟨⟨h1,h2⟩,h3⟩,h4⟩:=h
           exact CY g.cm g.pQ (by rw [g.hN];exact fP hi) (by rw [g.hN];exact fP hj) (by simpa using h4) (isl h2) (isl h3) (oQ (hE c X g) _ _) ((HB g hv hp).trans (by rw [if_pos rfl,h1])) (sole _)
         . exact cN
       . exact cN
     . exact cN
   . exact cN
 . exact qY (hE c X g false _) (jJ g (hE c X g false) 3 _) yo DB (rX rfl)
 . split
   . exact cN
   rename_i h
   simp only [Bool.or_eq_true,not_or,Bool.not_eq_true] at h
   exact qY (hE c X g false _) (jJ g (hE c X g false) 3 _) (pI h.1.1) (H_ h.1.2) (rX h.2)
theorem Ak (P:Pk){W:Nat}{kp:Bool}(g:Gd m c X){E:Cs->Bool->Expr->FE}{T:Cs->Expr->FT}(hE:∀c X,Gd m c X->∀rf e,DE X e (E c rf e))(hT:∀c X,Gd m c X->∀e,DT X e (T c e)){B:List Stmt->FS}(hB:∀b,jn X b (B b))(s:Stmt) :
   DS X s (xx m P W kp E T B c s):=by
 have nv:PassesOwn (model X.prog X.w) X.A X.env X.xe:=by rw [g.xe];exact PassesOwn.never
 unfold xx
 split
 . exact EO (hE c X g _ _)
 . exact GF (hT c X g _) (hB _) (hB _)
 . exact Aa P g hE hT
 . split
   . exact cN
   . rename_i h
     exact Er nv g.cm (p9 P g (hE c X g false)) (jJ g (hE c X g false) 3 _) (hB _) (kF (by simpa using h))
 . exact yn W nv (hT c X g _) (hB _)
 . exact AQ
 . exact Ci
 . exact CM
 . split
   . exact cN
   . rename_i h;exact A1 (hE c X g false _) (pI (by simpa using h))
 . exact cN
theorem Ay (P:Pk){W:Nat}{kp:Bool}(g:Gd m c X)(sts:List Stmt):jn X sts (body m P W kp c sts):=by
 obtain⟨hE,hT⟩:=y4 m P 30
 have:∀n s,DS X s (sS m P W kp (iv m P 30).1 (iv m P 30).2 c n s):=fun n=>by
  induction n with
  | zero=>exact fun _=>cN
  | succ n ih=>exact fun s=>Ak P g hE hT (pF ih) s
 exact pF (this 12) sts
end
structure bJ where
 nm:Str
 ps:List Str
 N:List Str
 st:Stmt
 kp:Bool
 mt:List Str
 pu:Bool
structure Mo where
 ds:List bJ
 nms:List Str
 cns:List (Str×D)
 dcs:List (Str×List (Str×D))
 P:Pk
 W:Nat
def oE:Nat->List bJ->List (Str×Nat×Nat)
 | _,[]=>[]
 | j,d::ds=>(d.nm,j,d.ps.length)::oE (j+1) ds
def Mo.g (M:Mo)(T:Nat->Fn)(k:Nat):G0:=⟨T,k,oE 0 M.ds,M.nms,M.cns,M.dcs⟩
def uN (pu:Bool)(f:Fn):Fn:=if pu then jY f else f
def bJ.run (M:Mo)(d:bJ)(T:Nat->Fn)(k:Nat):Fn:=uN d.pu (aJ d.kp d.N.length d.ps.length (body (M.g T k) M.P M.W d.kp ⟨d.N,bz d.st,true,d.mt⟩ (dI d.st)))
theorem oo:∀{ds:List bJ} {j:Nat} {x:Str} {i n:Nat},(x,i,n)∈oE j ds->∃d q,i=j+q/\ds[q]? = some d/\d.nm=x/\d.ps.length=n
 | [],_,_,_,_,h=>by simp [oE] at h
 | d::ds,j,x,i,n,h=>by
  rcases List.mem_cons.mp h with h | h
  . cases h;exact⟨d,0,rfl,rfl,rfl,rfl⟩
  . obtain⟨e,q,h1,h2,h3,h4⟩:=oo h
    exact⟨e,q+1,by omega,by simpa using h2,h3,h4⟩
structure Good (M:Mo)(T:Nat->Nat->Fn):Prop where
 z:∀j ds g,T 0 j ds g=none
 s:∀k j d,M.ds[j]? = some d->T (k+1) j=d.run M (T k) k
 sc:∀d∈M.ds,gO d.N d.ps (bz d.st)
structure wR (M:Mo)(K:KW)(f:Nat->Addr)(fd:Nat->FuncData):Prop where
 fn:∀j d,M.ds[j]? = some d->sD K.fr d.nm d.nm d.st (f j) (fd j)/\K.mg d.nm=some (.ref (f j))/\Binds K.fr (fd j) d.ps []
 bl:∀x∈M.nms,K.mg x=none
 cn:∀x d,(x,d)∈M.cns->∃v u,K.mg x=some u/\RelV v u /\ ∀K H ι,Rel K H ι d v
 dc:∀x t,(x,t)∈M.dcs->∃a,K.mg x=some (.ref a)/\oG K.w K a t
section
variable {M:Mo}{T:Nat->Nat->Fn}{K:KW}{f:Nat->Addr}{fd:Nat->FuncData}{P:Program}{base:Heap}
theorem Good.len (G:Good M T){k j:Nat}{d:bJ}(h:M.ds[j]? = some d):∀ds g r,T k j ds g=some r->ds.length=d.ps.length:=fun ds g r q=>by
 cases k with
 | zero=>rw [G.z] at q;cases q
 | succ k =>
  rw [G.s k j d h] at q
  unfold bJ.run uN at q
  split at q
  . exact tO (fun _ _ _=>nI _ _ _) ds g r q
  . exact nI ds g r q
theorem mB (G:Good M T)(A:wR M K f fd):∀k j d,M.ds[j]? = some d->cV P K.w K.fr K.mg base gC k (f j) (fd j) d.ps (jG K d.ps.length (T k j))
 | 0,j,d,h=>A7 fun ds g=>G.z j ds g
 | k+1,j,d,h=>by
  have ih:=mB G A k
  obtain⟨F,hm,hb⟩:=A.fn j d h
  have S:=G.sc d (List.mem_of_getElem? h)
  have hpl:d.ps.length<=d.N.length:=by have:=congrArg List.length S.pre;rw [List.length_take] at this;omega
  have main:cV P K.w K.fr K.mg base gC (k+1) (f j) (fd j) d.ps (jG K d.ps.length (aJ d.kp d.N.length d.ps.length (body (M.g (T k) k) M.P M.W d.kp ⟨d.N,bz d.st,true,d.mt⟩ (dI d.st)))):=by
    refine FU F S hpl fun cdv A' outer s H E hr=>?_
    have gd:Gd (M.g (T k) k) ⟨d.N,bz d.st,true,d.mt⟩ (jM gC P K.w K.fr K.mg base d.N d.nm (bz d.st) (f j) cdv A' outer s H E).sT:=⟨rfl,rfl,S.nd,rfl,rfl,hr,fun _ _=>rfl,fun x i n hx=>?_,A.bl,A.cn,A.dc⟩
    . exact Ay M.P gd _
    obtain⟨e,q,h1,h2,h3,h4⟩:=oo hx
    have h1:i=q:=by omega
    subst h1 h3 h4
    obtain⟨F',hm',hb'⟩:=A.fn i e h2
    exact⟨f i,fd i,e.ps,ih i e h2,hm',F'.kp,hb',G.len h2⟩
  rw [G.s k j d h]
  unfold bJ.run uN
  split
  . exact Bj main
  . exact main
end
def uo (K:PySem.W.Frag):Sp:=fun vs H Q _=>∃(a:Addr) (ns:List Int),vs = [.ref a]/\cD K H a (ns.map V.int)/\ns.length<=63 /\ ∀H',Q (.bl true) H'
theorem nZ {K:KW}{H:Hp}{ι:Ix}:∀ns:List Int,ag K H ι (ns.map D.int) (ns.map V.int)
 | []=>by simp [ag]
 | n::ns=>by
  simp only [List.map_cons,ag]
  exact⟨_,_,rfl,by simp [Rel],nZ ns⟩
theorem B8 {K:KW}{fn:Fn}(h:∀ns:List Int,ns.length<=63->∃g',fn [.lst (ns.map .int)] []=some (.bl true,g'))(vs:List V)(H:Hp)(Q:VK)(E:XK)(q:uo K.fr vs H Q E):jG K 1 fn vs H Q E:=by
 obtain⟨a,ns,rfl,hS,hl,hq⟩:=q
 obtain⟨g',hg⟩:=h ns hl
 refine⟨rfl,⟨[],[],fun _=>0⟩,[],[.lst (ns.map .int)],.bl true,g',⟨List.nodup_nil,rfl,(fun b hb=>by cases hb),(fun i xs z=>by simp at z)⟩,?_,hg,fun H' ι' v e G r=>?_⟩
 . simp only [ag]
   refine⟨_,_,rfl,?_,rfl⟩
   simp only [Rel]
   refine⟨a,_,rfl,?_,nZ ns⟩
   rcases hS with hS | hS
   . exact .inl ⟨hS,by simp,by simp⟩
   . exact .inr hS
 . simp only [Rel] at r
   rw [r]
   exact hq H'
inductive b6 (K:PySem.W.Frag):List bJ->List Addr->List FuncData->Prop
 | nil:b6 K [] [] []
 | cons {nm:Str} {ps N:List Str} {st:Stmt} {kp pu:Bool} {mt:List Str} {ds:List bJ} {fs:List Addr} {fds:List FuncData} {f:Addr} {oc:Value} {od an:Option Addr} {sl:Array (Option Value)} {kV dc pm cd ct:Value}
  (a:PySem.W.nsIn K mainGlobals nm=some (some (.ref f)))
  (l:K.lookup f=some ⟨oc,od,.func (PySem.W.fnOf nm nm (gP st) (dI st) (bz st) .none kV dc pm an cd ct),sl⟩)
  (e:PySem.W.codeIn K cd nm=true) (k:PySem.W.keepIn K (.ref f)=true)
  (b:∀us:List Value,us.length=ps.length->bindArgs (PySem.W.fnOf nm nm (gP st) (dI st) (bz st) .none kV dc pm an cd ct) ⟨us,[]⟩=pure (ps.zip us))
  (r:b6 K ds fs fds):b6 K (⟨nm,ps,N,st,kp,mt,pu⟩::ds) (f::fs) (PySem.W.fnOf nm nm (gP st) (dI st) (bz st) .none kV dc pm an cd ct::fds)
theorem b6.get {K:PySem.W.Frag}{h:Heap}{mg:Str->Option Value}(X:K.In h)(G:h.Ns mainGlobals mg){f0:Addr}{d0:FuncData}:∀{ds:List bJ} {fs:List Addr} {fds:List FuncData},b6 K ds fs fds ->
  ∀j d,ds[j]? = some d->sD K d.nm d.nm d.st (fs.getD j f0) (fds.getD j d0)/\mg d.nm=some (.ref (fs.getD j f0))/\Binds K (fds.getD j d0) d.ps []
 | _,_,_,.nil,j,d,h=>by simp at h
 | _,_,_,.cons a l e k b r,0,d,h=>by
  simp at h;subst h
  exact⟨Cb l e k,PySem.W.mg_of X G a,.all b⟩
 | _,_,_,.cons a l e k b r,j+1,d,h=>by
  simpa using r.get X G j d (by simpa using h)
theorem b6.Ha {K:PySem.W.Frag}{d0:FuncData}:∀{ds:List bJ} {fs:List Addr} {fds:List FuncData},b6 K ds fs fds->∀j d,ds[j]? = some d->∀us:List Value,us.length=d.ps.length->bindArgs (fds.getD j d0) ⟨us,[]⟩=pure (d.ps.zip us)
 | _,_,_,.nil,j,d,h=>by simp at h
 | _,_,_,.cons a l e k b r,0,d,h=>by
  simp at h;subst h
  exact b
 | _,_,_,.cons a l e k b r,j+1,d,h=>by
  simpa using r.Ha j d (by simpa using h)
theorem rY {p:List Value->Prop}(h:∀a,p [a]):∀us:List Value,us.length=1->p us
 | [a],_=>h a
theorem jt {p:List Value->Prop}(h:∀a b,p [a,b]):∀us:List Value,us.length=2->p us
 | [a,b],_=>h a b
theorem v9 {p:List Value->Prop}(h:∀a b c,p [a,b,c]):∀us:List Value,us.length=3->p us
 | [a,b,c],_=>h a b c
theorem whole {l:PySem.W.OpenLaw}{w:World}{K:PySem.W.Frag}{h:Heap}{mg:Str->Option Value}{fa:Addr}{M:Mo}{T:Nat->Nat->Fn}{i R:Nat}{d:bJ}{x:Str}{fs:List Addr}{fds:List FuncData}(X:K.In h)(G:h.Ns mainGlobals mg)(hd:M.ds[i]? = some d)(hx:d.ps = [x])(hnm:d.nm = "law")(hfa:mg "law" = some (.ref fa))
   (gd:Good M T) (L:b6 K M.ds fs fds) (bl:∀y∈M.nms,PySem.W.nsIn K mainGlobals y=some none)
   (cn:∀y e,(y,e)∈M.cns->∃v u,PySem.W.nsIn K mainGlobals y=some (some u)/\RelV v u /\ ∀K H ι,Rel K H ι e v)
   (dc:∀y t,(y,t)∈M.dcs->∃a,PySem.W.nsIn K mainGlobals y=some (some (.ref a))/\oG w ⟨K,w,mg⟩ a t)
   (spec:∀ns:List Int,ns.length<=63->∃g',T R i [.lst (ns.map .int)] []=some (.bl true,g')) :
   ∃fd:FuncData,(∀(s:Shared) (v:Value),BindsTo s fd ⟨[v],[]⟩ [(x,v)]) /\ ∀base:Heap,K.In base->base.Ns mainGlobals mg->cV l.prog w K mg base gC R fa fd [x] (uo K):=by
 have A:wR M ⟨K,w,mg⟩ (fun j=>fs.getD j fa) (fun j=>fds.getD j (fds.getD 0 default)):=⟨fun j d h=>L.get X G j d h,fun y hy=>PySem.W.mg_none_of X G (bl y hy),fun y e hm=>by
   obtain⟨v,u,h1,h2,h3⟩:=cn y e hm
   exact⟨v,u,PySem.W.mg_of X G h1,h2,h3⟩,fun y t hm=>by
   obtain⟨a,h1,h2⟩:=dc y t hm
   exact⟨a,PySem.W.mg_of X G h1,h2⟩⟩
 obtain⟨F,hm,hb⟩:=A.fn i d hd
 rw [hnm] at hm
 have e:fs.getD i fa=fa:=by
   have:=hm.symm.trans hfa;injection this with this;injection this
 refine⟨fds.getD i (fds.getD 0 default),fun s v=>.of_eq ?_,fun base _ _=>?_⟩
 . have:=L.Ha (d0:=fds.getD 0 default) i d hd [v] (by rw [hx];rfl)
   rw [this,hx];rfl
 have ok:=mB (P:=l.prog) (base:=base) gd A R i d hd
 dsimp only at ok
 rw [e,hx] at ok
 exact cV.imp ok (B8 (K:=⟨K,w,mg⟩) spec)
end RI
namespace TL
open PySem PySem.Spec PySem.SeqAt PyProof.Rows PySem.W
section
variable {prog:Program}{w:World}{A:Around}{E:Value->Shared->Prop}{s:Shared}
theorem pC {a:Addr}{p0:Array Nat}{vs out:List Value}{n:Nat}{κ:SortKind}{P:PySem.Fin->Shared->Prop}(ho:s.heap.get? a=some (seqObj "list" vs.toArray n))(h64:vs.length<64)
   (hk:2<=vs.length->∀Q:SortKind->Shared->Prop,Q κ { s with heap:=cO s.heap a vs }->wpAny (model prog w) A (keyKind' vs.toArray) Q E { s with heap:=cO s.heap a vs })
   (ho1:vs.length<2->out=vs) (ho2:2<=vs.length->out=p0.toList.map fun i=>vs.getD i .none) (hz:out.length<64)
   (hw:2<=vs.length->(kas_sort vs.length).kasWp (kas_ask prog w A κ vs) (fun p s'=>s'={ s with heap:=cO s.heap a vs }/\p=p0) { s with heap:=cO s.heap a vs })
   (h:P (.done (.ret .none)) { s with heap:=sortedHeap s.heap a vs out.toArray }) :
   wpAny (model prog w) A (Builtin.«list.sort» ⟨[.ref a],[]⟩) P E s:=by
 rw [list_sort_plain]
 have ha:a<s.heap.objs.size:=Heap.lt_size ho
 refine wpAny_bind (listItems_at ho rfl ?_)
 refine wpAny_bind (listUpdate_at ho rfl ?_ (by rw [List.size_toArray,sizeLine_eq];omega) (Nat.zero_le _))
 obtain⟨e1,hoe⟩:∃e1,(s.heap.update a (Obj.mapSeq fun _=>(#[]:Array Value))).get? a=some (seqObj "list" #[] e1):=⟨_,get?_update_seq ho (fun _=>#[])⟩
 refine wpAny_bind (seqEpoch_at hoe rfl ?_)
 refine wpAny_bind (wpAny_newTuple ?_ (by show vs.length<=_;rw [sizeLine_eq];omega))
 refine wpAny_bind (wpAny_newList ?_ (Nat.zero_le _))
 refine wpAny_holding ?_
 have ho6:(cO s.heap a vs).get? a=some (seqObj "list" #[] e1):=by
   unfold cO
   rw [Heap.get?_push_ne _ _ _ (by rw [size_push',Heap.size_update];exact Nat.ne_of_lt (Nat.lt_succ_of_lt ha)),Heap.get?_push_ne _ _ _ (by rw [Heap.size_update];exact Nat.ne_of_lt ha)]
   exact hoe
 show wpAny (model prog w) A _ P E { s with heap:=cO s.heap a vs }
 dsimp only
 have hsz:vs.toArray.size=vs.length:=by simp
 have hzz:(vs.toArray.zip vs.toArray).map (·.2)=vs.toArray:=by
   apply Array.toList_inj.mp
   simp [List.map_snd_zip]
 have fin:∀st':SortSt,(arrOf st').map (·.2)=out.toArray->failedOf st'=none->wpAny (model prog w) A (do
     let touched:=(<- seqEpoch a) != e1
     Builtin.List.listUpdate (.ref a) fun _=>(arrOf st').map (·.2)
     if let some e:=failedOf st' then rule "list.sort.comparison-raised";throw e
     if touched then rule "list.sort.modified";raiseError "ValueError" "list modified during sort"
     ret .none) P E { s with heap:=cO s.heap a vs }:=by
   intro st' e f
   refine wpAny_bind (seqEpoch_at ho6 rfl ?_)
   rw [e,f]
   refine wpAny_bind (listUpdate_at ho6 rfl ?_ (Nat.zero_le _) (by rw [List.size_toArray,sizeLine_eq];omega))
   simp only [bne_self_eq_false,Bool.false_eq_true,if_false]
   exact wpAny_pure h
 by_cases h2:vs.toArray.size<2
 . rw [if_pos h2,if_pos h2]
   refine wpAny_bind (wpAny_pure ?_)
   rw [StateT.run_pure]
   refine wpAny_bind (wpAny_pure ?_)
   exact fin (SortSt.mk' general' (vs.toArray.zip vs.toArray) #[] 7 none) (by rw [ho1 (by rw [hsz] at h2;exact h2)];exact hzz) rfl
 . rw [if_neg h2,if_neg h2]
   have h2':2<=vs.length:=by rw [hsz] at h2;omega
   refine wpAny_bind (hk h2' _ ?_)
   refine wpAny_bind (wpAny_mono (kat_run (Q:=fun st' s'=>s'={ s with heap:=cO s.heap a vs }/\(arrOf st').map (·.2)=out.toArray/\failedOf st'=none)
     (G:=fun p s'=>s'={ s with heap:=cO s.heap a vs }/\p=p0)
     rfl h2' h64 (fun p st' s' a1 a2 a3 a4=>⟨a4.1,?_,a3⟩) (hw h2')) ?_ fun _ _ x=>x)
   . rw [kat_snds rfl a2,a4.2,ho2 h2']
   . rintro⟨⟨⟩,st'⟩ s' ⟨rfl,hp,hf⟩
     exact fin st' hp hf
theorem il {l:Addr}{p0:Array Nat}{vs out:List Value}{κ:SortKind}{Q:Value->Shared->Prop}(hl:s.heap.IsList l vs.toArray)(h64:vs.length<64)
  (hk:2<=vs.length->∀(h':Heap),(∀b o,s.heap.get? b=some o->h'.get? b=some o)->∀(E:Value->Shared->Prop) (R:SortKind->Shared->Prop),R κ { s with heap:=h' }->wpAny (model prog w) A.in1.in1 (keyKind' vs.toArray) R E { s with heap:=h' })
  (ho1:vs.length<2->out=vs) (ho2:2<=vs.length->out=p0.toList.map fun i=>vs.getD i .none) (hz:out.length<64)
  (hw:∀(h':Heap),(∀b o,s.heap.get? b=some o->h'.get? b=some o)->2<=vs.length->(kas_sort vs.length).kasWp (kas_ask prog w A.in1.in1 κ vs) (fun p s'=>s'={ s with heap:=h' }/\p=p0) { s with heap:=h' })
  (h:Q (.ref (s.heap.objs.size+1)) { s with heap:=sortedAll s.heap vs out.toArray }) :
  wpAny (model prog w) A (call (.builtin "sorted") [.ref l]) Q E s:=by
 refine Calls.call_function_entry kind_sorted plain_sorted entry_sorted (args_sorted1 _) ?_
 unfold Builtin.«sorted»
 refine wpAny_bind (m:=checkCount "sorted" 1 1 _) (wpAny_pure ?_)
 refine wpAny_bind (collect_list hl ?_ (by rw [sizeLine_eq];omega))
 refine wpAny_bind (wpAny_newList ?_ (by rw [sizeLine_eq];omega))
 have hsz:((s.heap.push (seqObj "list" #[] 0)).update s.heap.objs.size (Obj.mapSeq (· ++ vs.toArray))).objs.size=s.heap.objs.size+1:=by
  rw [Heap.size_update,size_push']
 have hoL:(((s.heap.push (seqObj "list" #[] 0)).update s.heap.objs.size (Obj.mapSeq (· ++ vs.toArray))).push (seqObj "list" vs.toArray 0)).get? (s.heap.objs.size+1)=some (seqObj "list" vs.toArray 0):=by
  rw [<- hsz];exact Heap.get?_push_size _ rfl
 have keep:∀b o,s.heap.get? b=some o->(((s.heap.push (seqObj "list" #[] 0)).update s.heap.objs.size (Obj.mapSeq (· ++ vs.toArray))).push (seqObj "list" vs.toArray 0)).get? b=some o:=fun b o q=>by
  have hlt:b<s.heap.objs.size:=Heap.lt_size q
  rw [Heap.get?_push_ne _ _ _ (by rw [hsz];exact Nat.ne_of_lt (Nat.lt_succ_of_lt hlt)),Heap.get?_update_ne _ _ _ _ (Nat.ne_of_lt hlt),Heap.get?_push_ne _ _ _ (Nat.ne_of_lt hlt)]
  exact q
 have keep2:∀b o,s.heap.get? b=some o->(cO (((s.heap.push (seqObj "list" #[] 0)).update s.heap.objs.size (Obj.mapSeq (· ++ vs.toArray))).push (seqObj "list" vs.toArray 0)) (s.heap.objs.size+1) vs).get? b=some o:=fun b o q =>
  rh (Nat.ne_of_lt (Nat.lt_succ_of_lt (Heap.lt_size q))) (keep b o q)
 show wpAny _ _ _ _ _ { s with heap:=((s.heap.push (seqObj "list" #[] 0)).update s.heap.objs.size (Obj.mapSeq (· ++ vs.toArray))).push (seqObj "list" vs.toArray 0) }
 rw [hsz]
 refine wpAny_bind (wpAny_holding (wpAny_call_entry slot_list_sort ⟨_,hoL,rfl⟩ entry_list_sort (pC hoL h64 (fun z R r=>hk z _ keep2 _ R r) ho1 ho2 hz (fun z=>hw _ keep2 z) ⟨_,rfl,?_⟩) (args_list_sort _)))
 exact wpAny_pure ⟨_,rfl,h⟩
end
def ua {α:Type}(lt:Nat->Nat->Bool):KasT α->α
 | .ret a=>a
 | .ask i j k=>ua lt (k (lt i j))
def eK {α:Type}(N:Nat)(p:α->Prop):KasT α->Prop
 | .ret a=>p a
 | .ask i j k=>i<N/\j<N /\ ∀b,eK N p (k b)
theorem vH {α:Type}{lt:Nat->Nat->Bool}{N:Nat}{p:α->Prop}{cmp:Nat->Nat->(Bool->Shared->Prop)->Shared->Prop}{s:Shared}(h:∀i j,i<N->j<N->∀C:Bool->Shared->Prop,C (lt i j) s->cmp i j C s){G:α->Shared->Prop} :
  ∀t:KasT α,eK N p t->G (ua lt t) s->t.kasWp cmp G s
 | .ret a,_,g=>g
 | .ask i j k,a,g=>h i j a.1 a.2.1 _ (vH h (k (lt i j)) (a.2.2 _) g)
theorem eK.run {α:Type}{N:Nat}{p:α->Prop}{lt:Nat->Nat->Bool}:∀{t:KasT α},eK N p t->p (ua lt t)
 | .ret _,h=>h
 | .ask i j k,h=>(h.2.2 (lt i j)).run
theorem eK.bind {α β:Type}{N:Nat}{f:α->KasT β}{p:α->Prop}{q:β->Prop}:∀{t:KasT α},eK N p t->(∀a,p a->eK N q (f a))->eK N q (t.bind f)
 | .ret a,h,k=>k a h
 | .ask i j t,a,k=>⟨a.1,a.2.1,fun b=>(a.2.2 b).bind k⟩
def eg (N:Nat)(p:Array Nat):Prop:=p.toList.Perm (List.range N)
theorem eg.lt {N:Nat}{p:Array Nat}(h:eg N p)(hN:0<N)(i:Nat):p.getD i 0<N:=by
 rw [Array.getD_eq_getD_getElem?]
 cases e:p[i]? with
 | none=>exact hN
 | some x =>
  have:x∈p.toList:=Array.mem_toList_iff.mpr (Array.mem_of_getElem? e)
  exact List.mem_range.mp (h.mem_iff.mp this)
theorem eg.rev {N:Nat}{p:Array Nat}(h:eg N p)(i j:Nat):eg N (kas_rev p i j):=((mirror_perm p i j _).toList).trans h
theorem eg.KH {N:Nat}{p:Array Nat}(h:eg N p)(i j:Nat):eg N (bubble p i j):=((bubble_perm p i j).toList).trans h
section
variable {N:Nat}(hN:0<N)
include hN
theorem pA {p:Array Nat}(hp:eg N p):∀f n,eK N (fun _=>True) (kas_asc p f n)
 | 0,_=>True.intro
 | f+1,n=>⟨hp.lt hN _,hp.lt hN _,fun b=>by
  cases b
  . exact pA hp f (n+1)
  . exact True.intro⟩
theorem km:∀f {p:Array Nat} n q,eg N p->eK N (fun r=>eg N r.1) (kas_desc f p n q)
 | 0,p,n,q,hp=>hp
 | f+1,p,n,q,hp=>by
  refine⟨hp.lt hN _,hp.lt hN _,fun b=>?_⟩
  cases b
  . refine⟨hp.lt hN _,hp.lt hN _,fun b=>?_⟩
    cases b
    . exact km f _ _ hp
    . exact hp
  . simp only [if_true]
    split
    . exact km f _ _ (hp.rev _ _)
    . exact km f _ _ hp
theorem o_ {p:Array Nat}{n m:Nat}(hp:eg N p):eK N (fun r=>eg N r.2) (kas_tail3 n m p):=eK.bind (pA hN (hp.rev _ _) _ _) fun _ _=>hp.rev _ _
theorem kT {p:Array Nat}{n m:Nat}(hp:eg N p):eK N (fun r=>eg N r.2) (kas_descPart n m p):=eK.bind (km hN _ _ _ hp) fun r hr=>by
 split
 . exact o_ hN (eg.rev hr _ _)
 . exact o_ hN hr
theorem w_ {p:Array Nat}{n:Nat}(hp:eg N p):eK N (fun r=>eg N r.2) (kas_count n p):=eK.bind (pA hN hp _ _) fun m _=>by
 split
 . exact hp
 split
 . refine⟨hp.lt hN _,hp.lt hN _,fun b=>?_⟩
   cases b
   . exact kT hN (hp.rev _ _)
   . exact hp
 . exact kT hN hp
theorem lB {p:Array Nat}{k:Nat}(hp:eg N p):∀f l r,eK N (fun _=>True) (kas_place p k f l r)
 | 0,_,_=>True.intro
 | f+1,l,r=>by
  unfold kas_place
  split
  . exact True.intro
  . refine⟨hp.lt hN _,hp.lt hN _,fun b=>?_⟩
    cases b
    . exact lB hp f _ _
    . exact lB hp f _ _
theorem vh:∀f {p:Array Nat} k,eg N p->eK N (eg N) (kas_bin f p k)
 | 0,p,_,hp=>hp
 | f+1,p,k,hp=>eK.bind (lB hN hp _ _ _) fun l _=>vh f _ (hp.KH _ _)
theorem sW:eK N (eg N) (kas_sort N):=eK.bind (w_ hN (show(List.toArray (List.range N)).toList.Perm _ by simp)) fun r hr=>by
 split
 . exact vh hN _ _ hr
 . exact hr
end
end TL
namespace L3
open PySem PySem.Spec PyProof.Rows L2 SeqAt
mutual
def ltN:D->D->Option Bool
 | .int a,.int b=>some (decide (a<b))
 | .str a,.str b=>some (decide (a.cps.toList<b.cps.toList))
 | .tup xs,.tup ys=>fN (decide (xs.length<ys.length)) xs ys
 | _,_=>none
def fN (fin:Bool):List D->List D->Option Bool
 | x::xs,y::ys=>if aB x y=true then fN fin xs ys else ltN x y
 | _,_=>some fin
end
section
variable {X:Cx}{pins:List (Addr×Obj)}{σ:L2.St}{H:Hp}{s:Shared}{ι:Ix}
mutual
theorem zN (I:Inv X pins σ H s):∀(d e:D) {A:Around} {v w:V} {u z:Value} {k:Bool},flat d=true->flat e=true->Rel X.kw H ι d v->Rel X.kw H ι e w->RelV v u->RelV w z->A.units+dep d<cLine->ltN d e=some k->TL.jk A s u z k
 | .int a,e,A,v,w,u,z,k,_,_,r1,r2,ru,rz,_,h=>by
  cases e with
  | int b =>
   simp only [ltN,Option.some.injEq] at h;subst h
   simp only [Rel] at r1 r2;subst r1 r2
   obtain⟨t,rfl⟩:=ru;obtain⟨t',rfl⟩:=rz
   exact .ints a b t t'
  | _=>simp [ltN] at h
 | .str a,e,A,v,w,u,z,k,_,_,r1,r2,ru,rz,_,h=>by
  cases e with
  | str b =>
   simp only [ltN,Option.some.injEq] at h;subst h
   simp only [Rel] at r1 r2;subst r1 r2
   obtain⟨t,rfl⟩:=ru;obtain⟨t',rfl⟩:=rz
   exact .strs a b t t'
  | _=>simp [ltN] at h
 | .tup xs,e,A,v,w,u,z,k,f1,f2,r1,r2,ru,rz,hu,h=>by
  cases e with
  | tup ys =>
   simp only [ltN] at h
   simp only [Rel] at r1 r2
   obtain⟨p,vs,rfl,hq,hr⟩:=r1
   obtain⟨p',ws,rfl,hq',hr'⟩:=r2
   cases ru;cases rz
   obtain⟨its,rits,ht,_⟩:=I.tuple hq.sq
   obtain⟨jts,rjts,ht',_⟩:=I.tuple hq'.sq
   simp only [dep] at hu
   have l1:its.toArray.size=xs.length:=by rw [List.size_toArray,<- rits.length,hr.length]
   have l2:jts.toArray.size=ys.length:=by rw [List.size_toArray,<- rjts.length,hr'.length]
   refine TL.jk.tuples ht ht' (by omega) ?_
   rw [l1,l2]
   exact vJ I xs ys f1 f2 hr hr' rits rjts (by rw [in1_units];omega) h
  | _=>simp [ltN] at h
 | .non,e,A,v,w,u,z,k,_,_,_,_,_,_,_,h=>by simp [ltN] at h
 | .bl _,e,A,v,w,u,z,k,_,_,_,_,_,_,_,h=>by simp [ltN] at h
 | .lst _,e,A,v,w,u,z,k,_,_,_,_,_,_,_,h=>by simp [ltN] at h
 | .edc,e,A,v,w,u,z,k,_,_,_,_,_,_,_,h=>by simp [ltN] at h
 | .ref _,e,A,v,w,u,z,k,_,_,_,_,_,_,_,h=>by simp [ltN] at h
 | .aI _,e,A,v,w,u,z,k,_,_,_,_,_,_,_,h=>by simp [ltN] at h
 | .fn _,e,A,v,w,u,z,k,_,_,_,_,_,_,_,h=>by simp [ltN] at h
theorem vJ (I:Inv X pins σ H s):∀(xs ys:List D) {A:Around} {fin k:Bool} {vs ws:List V} {us zs:List Value},aS xs=true->aS ys=true->ag X.kw H ι xs vs->ag X.kw H ι ys ws->Vals vs us->Vals ws zs->A.units+bR xs<cLine ->
  fN fin xs ys=some k->TL.Lex A s fin (us.zip zs) k
 | [],ys,A,fin,k,vs,ws,us,zs,_,_,r1,_,ru,_,_,h=>by
  simp only [ag] at r1;subst r1;cases ru
  simp only [fN,Option.some.injEq] at h;subst h
  simp only [List.zip_nil_left];exact .nil
 | d::ds,[],A,fin,k,vs,ws,us,zs,_,_,_,r2,_,rz,_,h=>by
  simp only [ag] at r2;subst r2;cases rz
  simp only [fN,Option.some.injEq] at h;subst h
  simp only [List.zip_nil_right];exact .nil
 | d::ds,e::es,A,fin,k,vs,ws,us,zs,f1,f2,r1,r2,ru,rz,hu,h=>by
  simp only [ag] at r1 r2
  obtain⟨v,vr,rfl,hv,hr⟩:=r1
  obtain⟨w,wr,rfl,hw,hwr⟩:=r2
  simp only [aS,Bool.and_eq_true] at f1 f2
  simp only [bR] at hu
  cases ru with
  | cons ru0 rur =>
   cases rz with
   | cons rz0 rzr =>
    have heq:=DK.lT I (A:=A) f1.1 f2.1 hv hw ru0 rz0 (by omega)
    simp only [fN] at h
    simp only [List.zip_cons_cons]
    split at h
    . rename_i z
      rw [z] at heq
      exact .eq heq (vJ I ds es f1.2 f2.2 hr hwr rur rzr (by omega) h)
    . rename_i z
      rw [Bool.eq_false_iff.mpr z] at heq
      exact .ne heq (zN I d e f1.1 f2.1 hv hw ru0 rz0 (by omega) h)
end
def oT:D->Bool
 | .int _=>true
 | _=>false
theorem oV (I:Inv X pins σ H s){prog:Program}{w:World}{b fin:Bool}{Q:Bool->Shared->Prop}:∀(xs ys:List D) {A:Around} {k:Bool} {i:Nat} {vs ws:List V} {us zs:List Value},aS xs=true->aS ys=true->ag X.kw H ι xs vs->ag X.kw H ι ys ws->Vals vs us->Vals ws zs->A.units+bR xs<cLine ->
  (b=true->i=0->(xs.head?.all oT&&ys.head?.all oT)=true)->fN fin xs ys=some k->Q k s->PySem.W.KatLex prog w A b fin Q (us.zip zs) i s
 | [],ys,A,k,i,vs,ws,us,zs,_,_,r1,_,ru,_,_,_,h,q=>by
  simp only [ag] at r1;subst r1;cases ru
  simp only [fN,Option.some.injEq] at h;subst h
  simp only [List.zip_nil_left];exact PySem.W.kat_nil q
 | d::ds,[],A,k,i,vs,ws,us,zs,_,_,_,r2,_,rz,_,_,h,q=>by
  simp only [ag] at r2;subst r2;cases rz
  simp only [fN,Option.some.injEq] at h;subst h
  simp only [List.zip_nil_right];exact PySem.W.kat_nil q
 | d::ds,e::es,A,k,i,vs,ws,us,zs,f1,f2,r1,r2,ru,rz,hu,hb,h,q=>by
  simp only [ag] at r1 r2
  obtain⟨v,vr,rfl,hv,hr⟩:=r1
  obtain⟨w',wr,rfl,hw,hwr⟩:=r2
  simp only [aS,Bool.and_eq_true] at f1 f2
  simp only [bR] at hu
  cases ru with
  | cons ru0 rur =>
   cases rz with
   | cons rz0 rzr =>
    have heq:=DK.lT I (A:=A) f1.1 f2.1 hv hw ru0 rz0 (by omega)
    simp only [fN] at h
    simp only [List.zip_cons_cons]
    split at h
    . rename_i z
      rw [z] at heq
      exact PySem.W.kat_cons (heq _ _ _ _ (PySem.W.kat_yes (oV I ds es f1.2 f2.2 hr hwr rur rzr (by omega) (fun _ z=>by omega) h q)))
    . rename_i z
      rw [Bool.eq_false_iff.mpr z] at heq
      refine PySem.W.kat_cons (heq _ _ _ _ (PySem.W.kat_no ?_))
      have lt:=zN I d e (A:=A) f1.1 f2.1 hv hw ru0 rz0 (by omega) h
      cases hbi:(b&&i == 0) with
      | false =>
       refine PySem.W.kat_one _ _ ?_
       refine lt _ _ _ _ ?_
       exact q
      | true =>
       simp only [Bool.and_eq_true,beq_iff_eq] at hbi
       have:=hb hbi.1 hbi.2
       simp only [List.head?_cons,Option.all_some,Bool.and_eq_true] at this
       cases d with
       | int a=>cases e with
        | int c =>
         simp only [Rel] at hv hw;subst hv hw
         obtain⟨t,rfl⟩:=ru0;obtain⟨t',rfl⟩:=rz0
         simp only [ltN,Option.some.injEq] at h;subst h
         exact PySem.W.kat_lt_int q
        | _=>cases this.2
       | _=>cases this.1
end
def k_:D->Option Bool
 | .tup (.int _::_)=>some true
 | .tup (.tup _::_)=>some false
 | _=>none
def ltB (x y:D):Bool:=(ltN x y).getD false
def zz (xs:List D):Bool:=decide (xs.length<64)&&aS xs&&decide (bR xs<=50)&&(decide (xs.length<2)||((xs.all fun x=>k_ x == some true)||xs.all fun x=>k_ x == some false))&&xs.all fun x=>xs.all fun y=>(ltN x y).isSome
def i6 (xs:List D):List Nat:=(TL.ua (fun i j=>ltB (xs.getD i .non) (xs.getD j .non)) (PySem.W.kas_sort xs.length)).toList
def ky (xs:List D):List D:=if xs.length<2 then xs else(i6 xs).map fun i=>xs.getD i .non
def j3 (ds:List D)(g:G):Option (D×G):=match ds with | [d]=>(dP d g).bind fun xs=>if zz xs=true then some (.lst (ky xs),g) else none | _=>none
theorem gD {xs:List D}(h:2<=xs.length):(i6 xs).Perm (List.range xs.length):=(TL.sW (N:=xs.length) (by omega)).run
theorem uK {α:Type}(xs:List α)(d:α):(List.range xs.length).map (fun i=>xs.getD i d)=xs:=by
 apply List.ext_getElem
 . simp
 . intro i h1 h2
   simp [h2]
theorem tQ (xs:List D):(ky xs).Perm xs:=by
 unfold ky
 split
 . exact .refl _
 . rename_i h
   have:=(gD (xs:=xs) (by omega)).map fun i=>xs.getD i .non
   rw [uK] at this
   exact this
theorem ag.ze {K H ι}{xs:List D}{vs:List V}(r:ag K H ι xs vs):∀{is:List Nat},(∀i∈is,i<xs.length)->ag K H ι (is.map fun i=>xs.getD i .non) (is.map fun i=>vs.getD i .non)
 | [],_=>by simp [ag]
 | i::is,h=>by
  simp only [List.map_cons,ag]
  obtain⟨v,h1,h2⟩:=r.get (List.getElem?_eq_getElem (h i List.mem_cons_self))
  refine⟨_,_,rfl,?_,ag.ze r fun j hj=>h j (List.mem_cons_of_mem _ hj)⟩
  have e1:xs.getD i .non=xs[i]'(h i List.mem_cons_self):=by simp [h i List.mem_cons_self]
  have e2:vs.getD i .non=v:=by simp [h1]
  rw [e1,e2];exact h2
theorem Vals.pick {vs:List V}{us:List Value}(r:Vals vs us):∀{is:List Nat},(∀i∈is,i<vs.length)->Vals (is.map fun i=>vs.getD i .non) (is.map fun i=>us.getD i .none)
 | [],_=>.nil
 | i::is,h=>by
  obtain⟨u,h1,h2⟩:=r.get (List.getElem?_eq_getElem (h i List.mem_cons_self))
  refine .cons ?_ (Vals.pick r fun j hj=>h j (List.mem_cons_of_mem _ hj))
  have e1:vs.getD i .non=vs[i]'(h i List.mem_cons_self):=by simp [h i List.mem_cons_self]
  have e2:us.getD i .none=u:=by simp [h1]
  show RelV (vs.getD i .non) (us.getD i .none)
  rw [e1,e2];exact h2
section
variable {X:Cx}
theorem qL {pins:List (Addr×Obj)}{σ:L2.St}{H:Hp}{s:Shared}{ι:Ix}(I:Inv X pins σ H s){b:Bool}:∀(xs:List D) {vs:List V} {us:List Value},ag X.kw H ι xs vs->Vals vs us->(∀d∈xs,k_ d=some b) ->
  ∃fs,PySem.W.KatTups s.heap us fs/\fs.length=us.length /\ ∀f∈fs,PySem.W.Looks (model X.prog X.w) s.heap (typeOf f) (.type (if b then "int" else "tuple"))
 | [],vs,us,r,ru,_=>by
  simp only [ag] at r;subst r;cases ru
  exact⟨[],PySem.W.KatTups.nil,rfl,fun _ h=>by simp at h⟩
 | d::ds,vs,us,r,ru,ht=>by
  simp only [ag] at r
  obtain⟨v,vr,rfl,hv,hr⟩:=r
  cases ru with
  | cons ru0 rur =>
   obtain⟨fs,h1,h2,h3⟩:=qL I ds hr rur fun e he=>ht e (List.mem_cons_of_mem _ he)
   have hd:=ht d (List.mem_cons_self ..)
   unfold k_ at hd
   split at hd
   . rename_i n r'
     cases hd
     simp only [Rel] at hv
     obtain⟨p,vs,rfl,hq,hrr⟩:=hv
     cases ru0
     obtain⟨its,rits,⟨o,ho,hc,m,hdt⟩,_⟩:=I.tuple hq.sq
     simp only [ag,Rel] at hrr
     obtain⟨v1,vr',rfl,rfl,_⟩:=hrr
     cases rits with
     | cons ri rr =>
      obtain⟨t,rfl⟩:=ri
      refine⟨.int n t::fs,PySem.W.KatTups.cons ho hc hdt rfl h1,by simp [h2],fun f hf=>?_⟩
      rcases List.mem_cons.mp hf with rfl | hf
      . exact PySem.W.Looks.of_pure rfl
      . exact h3 f hf
   . rename_i ys r'
     cases hd
     simp only [Rel] at hv
     obtain⟨p,vs,rfl,hq,hrr⟩:=hv
     cases ru0
     obtain⟨its,rits,⟨o,ho,hc,m,hdt⟩,_⟩:=I.tuple hq.sq
     simp only [ag,Rel] at hrr
     obtain⟨v1,vr',rfl,⟨q,ws,rfl,hq2,_⟩,_⟩:=hrr
     obtain⟨_,_,⟨o2,ho2,hc2,_⟩,_⟩:=I.tuple hq2.sq
     cases rits with
     | cons ri rr =>
      cases ri
      refine⟨.ref q::fs,PySem.W.KatTups.cons ho hc hdt rfl h1,by simp [h2],fun f hf=>?_⟩
      rcases List.mem_cons.mp hf with rfl | hf
      . show PySem.W.Looks _ _ (typeOf (.ref q)) (Value.type "tuple")
        rw [<- hc2]
        exact(PySem.W.Looks.ld ho2).andThen .now
      . exact h3 f hf
   . cases hd
theorem yV (hu:X.A.units+64<cLine):b7 X (.builtin "sorted") (fI X.kw j3):=by
 intro pins s σ H xs us Q I r q
 obtain⟨ι,g,ds,d,g',G0,r1,q,p⟩:=q
 cases ds with
 | nil=>cases q
 | cons e dsr =>
 cases dsr with
 | cons _ _=>cases q
 | nil =>
  simp only [j3] at q
  obtain⟨ys,hx,q⟩:=bind_some q
  split at q
  . rename_i z
    simp only [zz,Bool.and_eq_true,Bool.or_eq_true,decide_eq_true_eq] at z
    obtain⟨⟨⟨⟨z1,z2⟩,z3⟩,z4⟩,z5⟩:=z
    cases q
    simp only [ag] at r1
    obtain⟨v,_,rfl,rv,rfl⟩:=r1
    obtain⟨a,vs,rfl,hq,hr⟩:=fQ G0 rv hx
    cases r with
    | cons ru rr =>
     cases rr
     cases ru
     obtain⟨its,rits,ht,hsz⟩:=I.list hq
     have hlen:its.length=ys.length:=by rw [<- rits.length,hr.length]
     have hlv:vs.length=ys.length:=hr.length.symm
     obtain⟨b,hb⟩:∃b:Bool,2<=ys.length->∀d∈ys,k_ d=some b:=by
       rcases z4 with z4 | z4 | z4
       . exact⟨true,fun h=>by omega⟩
       . exact⟨true,fun _ d hd=>eq_of_beq (List.all_eq_true.mp z4 d hd)⟩
       . exact⟨false,fun _ d hd=>eq_of_beq (List.all_eq_true.mp z4 d hd)⟩
     have pm:2<=ys.length->∀i∈i6 ys,i<ys.length:=fun h i hi=>List.mem_range.mp ((gD h).mem_iff.mp hi)
     have fin:∀(out:List Value) (ov:List V),Vals ov out->ag X.kw H ι (ky ys) ov->out.length<64->EP X pins σ Q (.ref (s.heap.objs.size+1)) { s with heap:=sortedAll s.heap its out.toArray }:=fun out ov h1 h2 hz=>by
       obtain⟨c,hc⟩:=sortedAll_at s.heap its out.toArray
       have hfr:=I.hok.fresh (Nat.le_succ s.heap.objs.size)
       refine⟨.ref (s.heap.objs.size+1),_,I.laid (t':=s.toks) (fun b o e=>sortedAll_old e) (Nat.le_succ _) (show cz X.prog X.w _ _ _ (.lst ov) from⟨by rw [h1.length,sizeLine_eq];omega,out,c,h1,by simpa [seqObj] using hc⟩),rfl,?_⟩
       refine p _ _ _ (Ext.lay hfr) (G0.lay hfr) ?_
       simp only [Rel]
       exact⟨_,_,rfl,.inl ⟨.inl aX,G0.fresh hfr,G0.fX hfr⟩,ag.ext (Ext.lay hfr) _ h2⟩
     have run:∀(h':Heap),(∀b o,s.heap.get? b=some o->h'.get? b=some o)->2<=its.length->(PySem.W.kas_sort its.length).kasWp (PySem.W.kas_ask X.prog X.w X.A.in1.in1 (tuples' b) its) (fun p s'=>s'={ s with heap:=h' }/\p=(i6 ys).toArray) { s with heap:=h' }:=fun h' hk h2=>by
       have I':Inv X pins σ H { s with heap:=h' }:=I.kept (t':=s.toks) hk
       refine TL.vH (lt:=fun i j=>ltB (ys.getD i .non) (ys.getD j .non)) (N:=its.length) (fun i j hi hj C hC=>?_) _ (TL.sW (by omega)) ⟨rfl,?_⟩
       . have hiy:i<ys.length:=by omega
         have hjy:j<ys.length:=by omega
         obtain⟨vi,hvi,ri⟩:=hr.get (List.getElem?_eq_getElem hiy)
         obtain⟨vj,hvj,rj⟩:=hr.get (List.getElem?_eq_getElem hjy)
         obtain⟨ui,hui,rui⟩:=rits.get hvi
         obtain⟨uj,huj,ruj⟩:=rits.get hvj
         unfold PySem.W.kas_ask
         have e1:its.getD i .none=ui:=by simp [hui]
         have e2:its.getD j .none=uj:=by simp [huj]
         have e3:ys.getD i .non=ys[i]:=by simp [hiy]
         have e4:ys.getD j .non=ys[j]:=by simp [hjy]
         rw [e1,e2]
         rw [e3,e4] at hC
         have mi:=List.getElem_mem hiy
         have mj:=List.getElem_mem hjy
         have ti:=hb (by omega) _ mi
         have tj:=hb (by omega) _ mj
         obtain⟨fi,di⟩:=iy z2 (List.getElem?_eq_getElem hiy)
         obtain⟨fj,dj⟩:=iy z2 (List.getElem?_eq_getElem hjy)
         obtain⟨k,hkk⟩:=Option.isSome_iff_exists.mp (List.all_eq_true.mp (List.all_eq_true.mp z5 _ mi) _ mj)
         unfold ltB at hC
         rw [hkk] at hC
         generalize ys[i]=di' at *
         generalize ys[j]=dj' at *
         have tup:∀{d:D},k_ d=some b->∃zs,d = .tup zs/\(b=true->zs.head?.all oT=true):=fun {d} h=>by
          unfold k_ at h
          split at h
          . exact⟨_,rfl,fun _=>rfl⟩
          . cases h;exact⟨_,rfl,fun z=>by cases z⟩
          . cases h
         obtain⟨xi,rfl,bi⟩:=tup ti
         obtain⟨xj,rfl,bj⟩:=tup tj
         simp only [Rel] at ri rj
         obtain⟨pi,wi,rfl,qi,rri⟩:=ri
         obtain⟨pj,wj,rfl,qj,rrj⟩:=rj
         cases rui;cases ruj
         obtain⟨ji,rji,⟨oi,hoi,_,mi',hdi⟩,_⟩:=I'.tuple qi.sq
         obtain⟨jj,rjj,⟨oj,hoj,_,mj',hdj⟩,_⟩:=I'.tuple qj.sq
         refine PySem.W.kat_lt hoi hdi hoj hdj ?_
         have l1:ji.toArray.size=xi.length:=by rw [List.size_toArray,<- rji.length,rri.length]
         have l2:jj.toArray.size=xj.length:=by rw [List.size_toArray,<- rjj.length,rrj.length]
         simp only [ltN] at hkk
         rw [l1,l2]
         simp only [dep] at di
         exact oV I' xi xj fi fj rri rrj rji rjj (by rw [in1_units,in1_units];omega) (fun hb' _=>by rw [bi hb',bj hb'];rfl) hkk hC
       . unfold i6
         rw [hlen]
     refine TL.il (κ:=tuples' b) (p0:=(i6 ys).toArray) (out:=if its.length<2 then its else(i6 ys).map fun i=>its.getD i .none) ht.isList (by omega) (fun h2 h' hk E R hR=>?_) (fun h=>if_pos h) (fun h=>by rw [if_neg (by omega)]) ?_ run ?_
     . have I':Inv X pins σ H { s with heap:=h' }:=I.kept (t':=s.toks) hk
       obtain⟨fs,k1,k2,k3⟩:=qL I' ys hr rits (hb (by omega))
       refine PySem.W.kat_kind (T:=.type (if b then "int" else "tuple")) k1 (by omega) k3 (by cases b<;>rfl) ?_
       have:((Value.type (if b then "int" else "tuple")) != Value.type "tuple")=b:=by cases b<;>rfl
       rw [this];exact hR
     . split
       . omega
       . rw [List.length_map,(gD (xs:=ys) (by omega)).length_eq,List.length_range];omega
     . by_cases h2:its.length<2
       . rw [if_pos h2]
         exact fin its vs rits (by unfold ky;rw [if_pos (by omega)];exact hr) (by omega)
       . rw [if_neg h2]
         refine fin _ _ (Vals.pick rits fun i hi=>by rw [hlv];exact pm (by omega) i hi) ?_ (by rw [List.length_map,(gD (xs:=ys) (by omega)).length_eq,List.length_range];omega)
         unfold ky
         rw [if_neg (by omega)]
         exact ag.ze hr (pm (by omega))
  . cases q
end
end L3
namespace TL
open PySem PySem.Spec PySem.SeqAt PyProof.Rows PySem.W
end TL
namespace L3
open PySem PySem.Spec PyProof.Rows L2 SeqAt
end L3
namespace RI
open PySem PySem.Spec PyProof.Rows L2 L3
def IM:dZ:=⟨"len",cU,fun _ _=>.inl ⟨_,Ex,PySem.boot_len⟩⟩
def Jh:dZ:=⟨"int",gn,fun _ _=>.inr ⟨_,Dz,boot_int⟩⟩
def IY:dZ:=⟨"tuple",de,fun _ _=>.inr ⟨_,En,boot_tuple⟩⟩
def Fo:dZ:=⟨"list",kc,fun _ _=>.inr ⟨_,Ad,boot_list⟩⟩
def HJ:dZ:=⟨"all",jO,fun _ hc=>.inl ⟨_,CT hc,boot_all⟩⟩
def HI:dZ:=⟨"any",fz,fun _ hc=>.inl ⟨_,AX hc,boot_any⟩⟩
def Ie:dZ:=⟨"sum",i7,fun hr _=>.inl ⟨_,BG hr.hd,boot_sum⟩⟩
def Jo:dZ:=⟨"max",mU,fun _ hc=>.inl ⟨_,Fd hc,boot_max⟩⟩
def IS:dZ:=⟨"min",nF,fun _ hc=>.inl ⟨_,DF hc,boot_min⟩⟩
def GN:mC:=⟨"get",fV,gw,fun hr=>⟨_,_,C1 hr.units⟩⟩
def isRef:D->Bool
 | .ref _=>true
 | _=>false
theorem qD {X:Cx}{pins:List (Addr×Obj)}{σ:L2.St}{H:Hp}{s:Shared}{ι:Ix}{g:G}{d:D}{x:V}{v:Value}(I:Inv X pins σ H s)(G0:ay X.kw H ι g)(r:Rel X.kw H ι d x)(rv:RelV x v)(h:isRef d=true) :
  s.TypeIs v "list" /\ ∀a,v = .ref a->∃ob,s.heap.get? a=some ob/\ob.dict=none:=by
 cases d with
 | ref n =>
  simp only [Rel] at r
  obtain⟨a,rfl,ha⟩:=r
  have hi:n<g.length:=by rw [<- G0.len];exact(List.getElem?_eq_some_iff.mp ha.1).1
  obtain⟨vs,hv,_⟩:=G0.at (List.getElem?_eq_getElem hi) ha
  exact wq I rv (.inl ⟨rfl,vs,.of hv⟩)
 | _=>cases h
def bG (d:D)(ds:List D)(g:G):Option (D×G):=match d,ds with
 | .ref n,[x]=>(g[n]?).bind fun xs=>if aF (xs.length+1)=true then some (.non,g.set n (xs ++ [x])) else none
 | _,_=>none
theorem wH {X:Cx}:MR X "list" "append" "list.append" isRef bG where
 pa:=PySem.F.plainAttrs_list
 slot:=PySem.F.slot_list_append
 ty:=PySem.F.type_list_append
 is:=qD
 run:=by
  intro pins s σ H x xs v us Q I rx rs q
  obtain⟨ι,g,d,ds,d',g',G0,r1,rl,hT,q,p⟩:=q
  cases d with
  | ref n =>
   match ds,q,rl with
   | [y],q,rl =>
    simp only [bG] at q
    obtain⟨ys,hx,q⟩:=bind_some q
    split at q
    . rename_i hz
      cases q
      simp only [Rel] at r1
      obtain⟨a,rfl,ha⟩:=r1
      simp only [ag] at rl
      obtain⟨w,_,rfl,rw_,rfl⟩:=rl
      obtain⟨ws,hw,hr⟩:=G0.at hx ha
      refine iq pins s σ H _ _ v us Q I rx rs ⟨a,ws,w,rfl,rfl,hw,?_,?_⟩
      . have:=aF.le hz;rw [<- hr.length];omega
      . exact p _ ι _ (Ext.put ha hw) (G0.put ha hw (ag.append hr (by simp only [ag];exact⟨_,_,rfl,rw_,rfl⟩))) (by simp [Rel])
    . cases q
   | [],q,_=>cases q
   | _::_::_,q,_=>cases q
  | _=>cases hT
def ya:mC:=⟨"append",isRef,bG,fun _=>⟨_,_,wH⟩⟩
def fW:D->Bool
 | .lst _=>true
 | _=>false
def e_ (d:D)(ds:List D)(g:G):Option (D×G):=match d,ds with
 | .lst xs,[x]=>if(dW x&&xs.all dW)=true then(lE xs x).map fun(j:Nat)=>(.int (j:Int),g) else none
 | _,_=>none
def vd (E:Expr->FE)(as:List Expr):FI:=match as with
 | [a]=>gy (aE E [a])
 | [a,b]=>Hv (aE E [a,b])
 | _=>mq
def AO:s_ where
 nm:="range"
 tup:=false
 f:=vd
 ok:=fun hr hc hm hg hE hst _=>by
  rename_i X k E tg as p pos
  unfold vd
  split
  . rename_i a
    simp only [List.any_cons,List.any_nil,Bool.or_false] at hst
    exact GP hg hm (fg hE _) (bV hst)
  . rename_i a b
    simp only [List.any_cons,List.any_nil,Bool.or_false,Bool.or_eq_false_iff] at hst
    exact Fy hg hm (fg hE _) (by rw [bV hst.1,bV hst.2];rfl) (bV hst.2)
  . exact mT
def wW (E:Expr->FE)(as:List Expr):FI:=match as with
 | [a]=>cY (E a)
 | _=>mq
def DZ:s_ where
 nm:="enumerate"
 tup:=true
 f:=wW
 ok:=fun hr hc hm hg hE hst ht=>by
  rename_i X k E tg as p pos
  unfold wW
  split
  . rename_i a
    simp only [List.any_cons,List.any_nil,Bool.or_false] at hst
    have:=ht rfl
    cases tg with
    | Tuple elts kt tp=>exact Bm hg hm (hE a) (bV hst)
    | _=>cases this
  . exact mT
def yF (x:Str):Option Ty:=if x == "int" then some .int else if x == "bool" then some .bool else if x == "str" then some .str else if x == "tuple" then some .tuple else if x == "list" then some .list else if x == "dict" then some .dict else none
theorem zY {x:Str}{T:Ty}(h:yF x=some T):x=Str.ofString T.name:=by
 unfold yF at h
 split at h;· rename_i e;cases h;exact eq_of_beq e
 split at h;· rename_i e;cases h;exact eq_of_beq e
 split at h;· rename_i e;cases h;exact eq_of_beq e
 split at h;· rename_i e;cases h;exact eq_of_beq e
 split at h;· rename_i e;cases h;exact eq_of_beq e
 split at h;· rename_i e;cases h;exact eq_of_beq e
 cases h
def B6:G0->Cs->(Expr->FE)->Expr->Option FT:=fun _ _ _ _=>none
def I_:mx where
 e:=fun m c E _ x=>match x with
  | .Call (.Name f _) [a,.Name t _] [] _=>if f == "isinstance" && c.sc.names.lookup f == some .globalImplicit&&c.sc.names.lookup t == some .globalImplicit&&m.nms.elem f&&m.nms.elem t && !(isStar a) then(yF t).map fun T=>lb T (E a) else none
  | _=>none
 eok:=by
  intro m c X E g hE rf x f h
  split at h
  . rename_i f' p a t p2 pos
    split at h
    . rename_i hh
      simp only [Bool.and_eq_true,beq_iff_eq,Bool.not_eq_true'] at hh
      obtain⟨⟨⟨⟨⟨h1,h2⟩,h3⟩,h4⟩,h5⟩,h6⟩:=hh
      obtain⟨T,hT,h⟩:=Option.map_eq_some_iff.mp h
      subst h
      have e:=zY hT
      subst h1
      subst e
      exact EL T (g.bl _ (List.elem_iff.mp h4)) (g.bl _ (List.elem_iff.mp h5)) (hE a) (g.gl h2) (g.gl h3) (bV h6)
    . cases h
  . cases h
 t:=B6
 tok:=by intro m c X E g hE x f h;cases h
theorem yS {X:Cx}{pins:List (Addr×Obj)}{σ:L2.St}{H:Hp}{s:Shared}{ι:Ix}{g:G}{d:D}{x:V}{v:Value}(I:Inv X pins σ H s)(G0:ay X.kw H ι g)(r:Rel X.kw H ι d x)(rv:RelV x v)(h:fW d=true) :
  s.TypeIs v "list" /\ ∀a,v = .ref a->∃ob,s.heap.get? a=some ob/\ob.dict=none:=by
 cases d with
 | lst xs =>
  simp only [Rel] at r
  obtain⟨a,vs,rfl,hq,hr⟩:=r
  exact wq I rv (.inl ⟨rfl,vs,hq.sq⟩)
 | _=>cases h
theorem yM {X:Cx}:MR X "list" "index" "list.index" fW e_ where
 pa:=PySem.F.plainAttrs_list
 slot:=PySem.F.slot_list_index
 ty:=PySem.F.type_list_index
 is:=yS
 run:=by
  intro pins s σ H x xs v us Q I rx rs q
  obtain⟨ι,g,d,ds,d',g',G0,r1,rl,hT,q,p⟩:=q
  cases d with
  | lst ys =>
   match ds,q,rl with
   | [y],q,rl =>
    simp only [e_] at q
    split at q
    . rename_i hz
      simp only [Bool.and_eq_true] at hz
      obtain⟨j,hj,q⟩:=Option.map_eq_some_iff.mp q
      cases q
      simp only [Rel] at r1
      obtain⟨a,vs,rfl,hq,hr⟩:=r1
      simp only [ag] at rl
      obtain⟨w,_,rfl,rw_,rfl⟩:=rl
      obtain⟨e1,_⟩:=kg hz.1 rw_
      obtain⟨e2,_⟩:=lC hz.2 hr
      subst e1 e2
      exact vV pins s σ H _ _ v us Q I rx rs ⟨a,ys,y,j,rfl,hq.sq,rfl,hz.1,hz.2,hj,p H ι _ Ext.refl G0 (by simp [Rel])⟩
    . cases q
   | [],q,_=>cases q
   | _::_::_,q,_=>cases q
  | _=>cases hT
def BC:mC:=⟨"index",fW,e_,fun _=>⟨_,_,yM⟩⟩
def ve (d:bJ):Bool :=
 decide ((bz d.st).kind = .function) && !(bz d.st).isCoroutine && !(bz d.st).isGenerator&&sX d.N&&decide (d.N.take d.ps.length=d.ps) &&
 d.ps.all (fun x=>(bz d.st).names.lookup x == some .local||(bz d.st).names.lookup x == some .cell)&&(bz d.st).names.all (fun y=>!(y.2 == .free))
def sg (ds:List bJ):Bool:=ds.all ve
theorem vA {ds:List bJ}(h:sg ds=true):∀d∈ds,gO d.N d.ps (bz d.st):=fun d hd=>by
 have:=List.all_eq_true.mp h d hd
 simp only [ve,Bool.and_eq_true,decide_eq_true_eq,Bool.not_eq_true',List.all_eq_true,Bool.or_eq_true,beq_iff_eq] at this
 obtain⟨⟨⟨⟨⟨⟨h1,h2⟩,h3⟩,h4⟩,h5⟩,h6⟩,h7⟩:=this
 exact⟨h1,h2,h3,pV h4,h5,h6,fun y hy e=>by have:=h7 y hy;rw [e] at this;simp at this⟩
def At (K:PySem.W.Frag)(w:World)(mg:Str->Option Value)(M:Mo):Prop:=∃fs fds,b6 K M.ds fs fds/\(∀y∈M.nms,PySem.W.nsIn K mainGlobals y=some none) /\
 (∀y e,(y,e)∈M.cns->∃v u,PySem.W.nsIn K mainGlobals y=some (some u)/\RelV v u /\ ∀K H ι,Rel K H ι e v) /\
 (∀y t,(y,t)∈M.dcs->∃a,PySem.W.nsIn K mainGlobals y=some (some (.ref a))/\oG w ⟨K,w,mg⟩ a t)
theorem AB {l:PySem.W.OpenLaw}{q:Program}{loose:List Str}{XP:(Str->Option Value)->Heap->Prop}{YP:World->Heap->Prop}{d:DefRec}{K:Params->PySem.W.Frag}{M:Mo}{T:Nat->Nat->Fn}{i R:Nat}{dt:bJ}{x:Str}(hn:l.most=some 63)(hr:aC R callerA)(hdf:d.params.defaults = [])(hdn:d.name = "law")
  (hY:∀(w:World) (h:Heap),YP w h->(K w.params).In h)
  (F:∀(w:World) (mg:Str->Option Value) (h:Heap),(K w.params).In h->h.Ns mainGlobals mg->At (K w.params) w mg M)
  (hd:M.ds[i]? = some dt) (hx:dt.ps = [x]) (hnm:dt.nm = "law") (gd:Good M T)
  (spec:∀ns:List Int,ns.length<=63->∃g',T R i [.lst (ns.map .int)] []=some (.bl true,g')) :
  PySem.W.WalkO q loose XP YP l.row.toRowW d [] (fun f vs=>PySem.call f vs) :=
 L2.Bz (n:=63) (k:=R) (x:=x) (CX:=fun _=>gC) (sp:=fun w=>uo (K w.params)) hn (by decide) hdf hr hY
  (fun w mg fa h KX G hfa=>by
   obtain⟨fs,fds,L,B,C,Dc⟩:=F w mg h KX G
   rw [hdn] at hfa
   exact whole KX G hd hx hnm hfa gd L B C Dc spec)
  (fun _ _ a ns hl _ hS=>⟨a,ns,rfl,hS,hl,fun _=>rfl⟩) fun _ _ _ _ _ z=>z
section
variable {α β:Type}{P:α->Prop}{Q:α->β->Prop}
theorem bn:∀y∈([]:List α),P y:=fun y h=>by simp at h
theorem bc {x:α}{l:List α}(h:P x)(r:∀y∈l,P y):∀y∈x::l,P y:=fun y z=>by
 rcases List.mem_cons.mp z with rfl | z
 . exact h
 . exact r y z
theorem He:∀y e,(y,e)∈([]:List (α×β))->Q y e:=fun y e h=>by simp at h
end
theorem ma {K H ι}:∀{xs:List D} {vs:List V} (k:Nat),ag K H ι xs vs->ag K H ι (xs.eraseIdx k) (vs.eraseIdx k)
 | [],vs,k,h=>by simp only [ag] at h;subst h;simp [ag]
 | x::xs,vs,k,h=>by
  simp only [ag] at h
  obtain⟨v,vr,rfl,h1,h2⟩:=h
  cases k with
  | zero=>simpa using h2
  | succ k =>
   simp only [List.eraseIdx_cons_succ,ag]
   exact⟨v,_,rfl,h1,ma k h2⟩
theorem ot {K H ι}{xs:List D}{vs:List V}(h:ag K H ι xs vs):ag K H ι xs.dropLast vs.dropLast:=by
 rw [List.dropLast_eq_take,List.dropLast_eq_take,h.length.symm.symm]
 have:∀(n:Nat) {xs:List D} {vs:List V},ag K H ι xs vs->ag K H ι (xs.take n) (vs.take n):=fun n=>by
  induction n with
  | zero=>intro xs vs _;simp [ag]
  | succ n ih =>
   intro xs vs h
   cases xs with
   | nil=>simp only [ag] at h;subst h;simp [ag]
   | cons x xs =>
    simp only [ag] at h
    obtain⟨v,vr,rfl,h1,h2⟩:=h
    simp only [List.take_succ_cons,ag]
    exact⟨v,_,rfl,h1,ih h2⟩
 exact this _ h
def nD (d:D)(ds:List D)(g:G):Option (D×G):=match d,ds with
 | .ref n,[]=>(g[n]?).bind fun xs=>(xs[xs.length-1]?).map fun y=>(y,g.set n xs.dropLast)
 | .ref n,[.int i]=>(g[n]?).bind fun xs=>if(decide (-1000000<=i)&&decide (i<=1000000))=true then(seqIndex? i xs.length).bind fun k=>(xs[k]?).map fun y=>(y,g.set n (xs.eraseIdx k)) else none
 | _,_=>none
theorem Ca {X:Cx}:MR X "list" "pop" "list.pop" isRef nD where
 pa:=PySem.F.plainAttrs_list
 slot:=PySem.F.slot_list_pop
 ty:=PySem.F.type_list_pop
 is:=qD
 run:=by
  intro pins s σ H x xs v us Q I rx rs q
  obtain⟨ι,g,d,ds,d',g',G0,r1,rl,hT,q,p⟩:=q
  unfold nD at q
  split at q
  . rename_i n
    obtain⟨ys,hx,q⟩:=bind_some q
    obtain⟨y,hy,q⟩:=Option.map_eq_some_iff.mp q
    cases q
    simp only [Rel] at r1
    obtain⟨a,rfl,ha⟩:=r1
    simp only [ag] at rl
    subst rl
    obtain⟨ws,hw,hr⟩:=G0.at hx ha
    obtain⟨w,hw2,rw_⟩:=hr.get hy
    refine CW pins s σ H _ _ v us Q I rx rs ⟨a,ws,w,rfl,rfl,hw,by rw [<- hr.length];exact hw2,?_⟩
    exact p _ ι _ (Ext.put ha hw) (G0.put ha hw (ot hr)) (Rel.ext (Ext.put ha hw) _ rw_)
  . rename_i n i
    obtain⟨ys,hx,q⟩:=bind_some q
    split at q
    . rename_i hb
      simp only [Bool.and_eq_true,decide_eq_true_eq] at hb
      obtain⟨k,hk,q⟩:=bind_some q
      obtain⟨y,hy,q⟩:=Option.map_eq_some_iff.mp q
      cases q
      simp only [Rel] at r1
      obtain⟨a,rfl,ha⟩:=r1
      simp only [ag,Rel] at rl
      obtain⟨w0,_,rfl,rfl,rfl⟩:=rl
      obtain⟨ws,hw,hr⟩:=G0.at hx ha
      obtain⟨w,hw2,rw_⟩:=hr.get hy
      refine xg pins s σ H _ _ v us Q I rx rs ⟨a,ws,i,k,w,rfl,rfl,hw,by omega,by omega,by rw [<- hr.length];exact hk,hw2,?_⟩
      exact p _ ι _ (Ext.put ha hw) (G0.put ha hw (ma k hr)) (Rel.ext (Ext.put ha hw) _ rw_)
    . cases q
  . cases q
def Gr:mC:=⟨"pop",isRef,nD,fun _=>⟨_,_,Ca⟩⟩
def vE (E:Expr->FE)(v:Expr):FE:=match v with
 | .List es _=>aG mkRef (aE E es)
 | v=>E v
theorem GI {X:Cx}{E:Expr->FE}(hE:∀e,DE X e (E e))(v:Expr):DE X v (vE E v):=by
 unfold vE
 split
 . exact wt (fg hE _)
 . exact hE _
def v5 (E:Expr->FE):List (Option Expr)->List Expr->List (FE×FE)
 | some k::ks,v::vs=>(E k,vE E v)::v5 E ks vs
 | _,_=>[]
theorem uZ {X:Cx}{E:Expr->FE}(hE:∀e,DE X e (E e)):∀(ks:List (Option Expr)) (vs:List Expr),ks.all (·.isSome)=true->ks.length=vs.length->d_ X ks vs (v5 E ks vs)
 | [],[],_,_=>by simp [v5,d_]
 | [],_::_,_,h=>by simp at h
 | _::_,[],_,h=>by simp at h
 | none::_,_::_,h,_=>by simp at h
 | some k::ks,v::vs,h,hl=>by
  simp only [v5,d_]
  exact⟨hE k,GI hE v,uZ hE ks vs (by simpa using h) (by simpa using hl)⟩
def F4:mx where
 e:=fun m c E _ x=>match x with
  | .Dict (k::ks) vals _=>if(k::ks).all (·.isSome)&&decide ((k::ks).length=vals.length)&&decide ((k::ks).length<=15) then some (eR (v5 E (k::ks) vals)) else none
  | _=>none
 eok:=by
  intro m c X E g hE rf x f h
  split at h
  . rename_i k ks vals pos
    split at h
    . rename_i hh
      rw [Bool.and_eq_true,Bool.and_eq_true,decide_eq_true_eq,decide_eq_true_eq] at hh
      cases h
      exact xu g.hu (uZ hE _ _ hh.1.1 hh.1.2) hh.1.1 hh.1.2 (by simp) hh.2
    . cases h
  . cases h
 t:=B6
 tok:=by intro m c X E g hE x f h;cases h
end RI
namespace PySem
namespace F
theorem eQ:entryFor table "dict.update.loop" = some Builtin.«dict.update.loop»:=entryFor_of_tree (by kernel_rfl)
theorem cv:plainId "dict.update.loop" = true:=by decide +kernel
end F
theorem qE:typeLookup (.type "list") "keys" = pure none:=by rw [typeLookup_type,builtinLookup_eq_fast];kernel_rfl
theorem p6 {prog:Program}{w:World}{A:Around}{E:Value->Shared->Prop}{s:Shared}{a:Addr}{o:Obj}{xs:Array Value}{k:Nat}{Q:Option Value->Shared->Prop}
  (hx:s.heap.get? a=some o) (hc:o.cls = .type "list") (hdat:o.data = .seq xs k) (hd:o.dict=none) (hA:A.handled=none)
  (h:∀h' tk,(∀b ob,s.heap.get? b=some ob->h'.get? b=some ob)->Q none { s with heap:=h',toks:=tk }) :
  wpAny (model prog w) A (getAttr? (.ref a) "keys") Q E s:=by
 obtain⟨c,aI,dat,sl⟩:=o
 simp only at hc hdat hd
 subst hc hdat hd
 obtain⟨hp,g,d,tk,os⟩:=s
 have hT:∀tk',(⟨hp,g,d,tk',os⟩:Shared).TypeIs (.ref a) "list":=fun _=>⟨_,hx,rfl⟩
 have f1:=sub_AttributeError
 have f3:=F.slot_list_getattribute.lookup
 have f4:=F.slot_list_getattribute.bind (.ref a)
 have f5:=am_list_getattr_none
 unfold getAttr? getAttrBy? getAttrBy
 repeat (any_goals (first | assumption | exact hT _ | ((with_reducible show wpAny _ _ (call (Value.builtin "list.__getattribute__") _ _) _ _ _);refine call_meets F.slot_list_getattribute (hT _) am_entry_list_getattribute (F.args_list_getattribute_2 _ _) (meets_getattribute_miss_list a xs k sl "keys" _ qE (by decide) (by size_fits)) ⟨hx,hA,fun h' tk' e hx'=>?_⟩) | wp_step))
 obtain⟨t',u',he⟩:=hx'.there
 show wpAny _ _ (getattributeRaised _ _ _ _ _ _ _) _ _ _
 unfold getattributeRaised
 repeat (any_goals (first | assumption | wp_step))
 exact h _ _ hx'.keeps
end PySem
namespace L3
open PySem PySem.Spec PyProof.Rows L2 SeqAt DK
def uB:D->Option (D×D)
 | .tup [k,v]=>some (k,v)
 | _=>none
def gK:List D->Option (List (D×D))
 | []=>some []
 | d::ds=>(uB d).bind fun p=>(gK ds).map fun r=>p::r
def iY:Fn:=fun ds g=>match ds with
 | [.lst ps]=>(gK ps).bind fun qs=>(putAll g.length qs (g ++ [[]])).map fun g'=>(.aI g.length,g')
 | _=>none
section
variable {X:Cx}{pins:List (Addr×Obj)}{σ:L2.St}
theorem ql {A:Around}{E:Value->Shared->Prop}{P:Shared->Prop}(hu:A.units+32<cLine)(hh:A.handled=none){a l it:Addr}{n:Nat}{ps:List D}{vs:List V}:∀(qs:List (D×D)) (i:Nat) {s:Shared} {H:Hp} {ι:Ix} {g g':G},Inv X pins σ H s->ay X.kw H ι g->cS ι n a true->hU X.kw H ι l vs->ag X.kw H ι ps vs->gK (ps.drop i)=some qs->putAll n qs g=some g' ->
  s.heap.IsListIter it l i->cM X pins H it ->
  (∀s' H',Inv X pins σ H' s'->Ext H ι H' ι->ay X.kw H' ι g'->P s') ->
  codeAny (model X.prog X.w) A (.builtin "dict.update.loop" ⟨[.ref a,.ref it,.int i 0,.none],[]⟩) (wants (fun r s₂=>r = .none/\P s₂) E) s
 | [],i,s,H,ι,g,g',I,G0,ha,hq,hr,h,hg,hit,hf,p=>by
  cases hg
  have hd:ps.drop i = []:=by
    cases e:ps.drop i with
    | nil=>rfl
    | cons x r=>rw [e] at h;simp only [gK] at h;obtain⟨_,_,h⟩:=bind_some h;obtain⟨_,_,h⟩:=Option.map_eq_some_iff.mp h;cases h
  obtain⟨its,rits,pl,hz⟩:=I.list hq.sq
  have hlen:its.length<=i:=by rw [<- rits.length,<- hr.length];exact List.drop_eq_nil_iff.mp hd
  refine codeAny_builtin F.eQ ?_
  rw [Around.under_plainId F.cv _]
  show wpAny _ A.in1 (pyNext (.ref it) >>= _) _ _ s
  refine wpAny_bind (wpAny_pyNext_list_end hh hit pl.isList (by simp;omega) fun h' hx=>?_)
  show wpAny _ A.in1 (Builtin.Dict.addKeywords a [] >>= _) _ _ _
  exact wpAny_bind (wpAny_pure (wpAny_pure ⟨rfl,p _ H (I.turned (t':=s.toks) (fun b o hb q=>hx b o hb q) hf.1 hf.2.1 hf.2.2.2.1 hf.2.2.2.2.1 hf.2.2.2.2.2) Ext.refl G0⟩))
 | (k,v)::qs,i,s,H,ι,g,g',I,G0,ha,hq,hr,h,hg,hit,hf,p=>by
  obtain⟨x,r,hd,hpx,hpr⟩:∃x r,ps.drop i=x::r/\uB x=some (k,v)/\gK r=some qs:=by
    cases e:ps.drop i with
    | nil=>rw [e] at h;simp [gK] at h
    | cons x r =>
      rw [e] at h;simp only [gK] at h
      obtain⟨p0,h1,h⟩:=bind_some h
      obtain⟨r0,h2,h⟩:=Option.map_eq_some_iff.mp h
      cases h
      exact⟨x,r,rfl,h1,h2⟩
  have hi:ps[i]? = some x:=by
    have:=congrArg (fun l=>l[0]?) hd
    simpa using this
  have hdr:ps.drop (i+1)=r:=by
    have:=congrArg List.tail hd
    simpa using this
  have hx:x = .tup [k,v]:=by
    unfold uB at hpx
    split at hpx
    . cases hpx;rfl
    . cases hpx
  subst hx
  obtain⟨its,rits,pl,hz⟩:=I.list hq.sq
  obtain⟨w,hw,rw_⟩:=hr.get hi
  obtain⟨u,hu1,ru⟩:=rits.get hw
  simp only [Rel] at rw_
  obtain⟨b,us,rfl,hqb,hrb⟩:=rw_
  cases ru
  simp only [ag] at hrb
  obtain⟨kv,_,rfl,rk,vv,_,rfl,rv,rfl⟩:=hrb
  refine codeAny_builtin F.eQ ?_
  rw [Around.under_plainId F.cv _]
  show wpAny _ A.in1 (pyNext (.ref it) >>= _) _ _ s
  refine wpAny_bind (wpAny_pyNext_list_item hit pl.isList (by simpa using hu1) fun h' hit' sb=>?_)
  have I1:Inv X pins σ H { s with heap:=h' }:=I.turned (t':=s.toks) (fun b o hb e=>sb.extBut b o hb e) hf.1 hf.2.1 hf.2.2.2.1 hf.2.2.2.2.1 hf.2.2.2.2.2
  obtain⟨its2,rits2,⟨o,h1,h2,m,h3⟩,_⟩:=I1.tuple hqb.sq
  obtain⟨ku,vu,rfl,rku,rvu⟩:∃ku vu,its2 = [ku,vu]/\RelV kv ku/\RelV vv vu:=by
    cases rits2 with
    | cons a1 r1=>cases r1 with
      | cons a2 r2=>cases r2;exact⟨_,_,rfl,a1,a2⟩
  show wpAny _ A.in1 (holding [.ref b] _ >>= _) _ _ _
  refine wpAny_bind (wpAny_holding ?_)
  refine wpAny_bind (wpAny_tryCatch ?_)
  unfold Builtin.Dict.pairItems
  refine wpAny_bind (wpAny_typeOf ⟨o,h1,h2⟩ ?_)
  rw [if_pos (by decide)]
  refine wpAny_bind (wpAny_seqItems h1 h3 (wpAny_pure ?_))
  simp only [putAll] at hg
  obtain⟨g1,hg1,hg⟩:=bind_some hg
  simp only [fE] at hg1
  obtain⟨xs,hxs,hg1⟩:=bind_some hg1
  split at hg1
  . rename_i hk
    simp only [Bool.and_eq_true] at hk
    cases hg1
    obtain⟨es,vs',c,hH,hkd,hcl,rvs,hhs,nd,sy,sz,rl⟩:=G0.jB hxs ha
    have en:=Ent.of rvs hhs rl
    have hz2:=aF.le hk.2
    rw [nr en] at hz2
    refine wpAny_holding ?_
    refine jI I1 (by rw [in1_units];omega) hH hcl sz en nd hk.1 rk rku rv rvu fun tk h'' es' e1 e2 e3 e0 e4 e5=>?_
    refine wpAny_pure ⟨plainId_quiet F.cv _,?_⟩
    have x1:Ext H ι (upd H a (dO a es' c)) ι:=Ext.put ha hH
    have hne:it≠a:=fun z=>by rw [z] at hf;rw [hf.1] at hH;cases hH
    have:=ql (P:=P) hu hh qs (i+1) (lz (tk:=tk) I1 hH e4 e5) (lx G0 ha hkd hH e1 e2 sy e0 (by omega)) ha (hq.ext x1) (ag.ext x1 _ hr) (by rw [hdr];exact hpr) hg (hit'.at fun o q=>by rw [e5.2 it hne];exact q) ⟨by rw [aN hne];exact hf.1,hf.2⟩ (E:=E) fun s' H' I' x' G'=>p s' H' I' (x1.trans x') G'
    exact this
  . cases hg1
theorem z8 {k:Nat}(hr:aC k X.A):b7 X (.type "dict") (fI X.kw iY):=by
 intro pins s σ H xs us Q I r q
 obtain⟨ι,g,ds,d,g',G0,r1,q,p⟩:=q
 unfold iY at q
 split at q
 . rename_i ps
   obtain⟨qs,hqs,q⟩:=bind_some q
   obtain⟨g2,hg2,q⟩:=Option.map_eq_some_iff.mp q
   cases q
   simp only [ag] at r1
   obtain⟨v,_,rfl,rv,rfl⟩:=r1
   simp only [Rel] at rv
   obtain⟨l,vs,rfl,hq,hrl⟩:=rv
   obtain⟨u,rfl,ru⟩:=vals1 r
   cases ru
   have hf:H s.heap.objs.size=none:=I.hok.fresh (Nat.le_refl _)
   have hgt:∀h:Heap,(h.push { cls:=.type "dict",data:=.dict #[] }).get? h.objs.size=some { cls:=.type "dict",data:=.dict #[] }:=fun h=>Heap.get?_push_size _ rfl
   have I1:Inv X pins σ (upd H s.heap.objs.size (dO s.heap.objs.size [] 0)) { s with heap:=s.heap.push { cls:=.type "dict",data:=.dict #[] } }:=I.laid (t':=s.toks) (fun b u e=>Heap.get?_push_of_some _ e) (Nat.le_refl _) ⟨hgt _,⟨_,hgt _⟩,fun h1 h2 q k=>k _ q⟩
   have x1:Ext H ι (upd H s.heap.objs.size (dO s.heap.objs.size [] 0)) (ι.more s.heap.objs.size 1):=Ext.eS (b:=1) hf
   have G1:ay X.kw (upd H s.heap.objs.size (dO s.heap.objs.size [] 0)) (ι.more s.heap.objs.size 1) (g ++ [[]]):=G0.eS hf (.d 0 [] [] (Nat.zero_le _) .nil .nil (by simp [aO]) (beq_eq_false_iff_ne.mpr (Ne.symm (Nat.ne_of_lt (big I)))) (Nat.zero_le _)) (by simp [ag])
   have j0:cS (ι.more s.heap.objs.size 1) g.length s.heap.objs.size true:=cS.new G0.len
   refine callType_codes (Q₁:=fun obj s₁=>obj = .ref s.heap.objs.size/\s₁={ s with heap:=s.heap.push { cls:=.type "dict",data:=.dict #[] } }) F.kt_called_dict (F.kt_typeCall_dict_1 _) F.entry_dict_init (kt_code_dict_new _ ⟨rfl,rfl⟩) ?_
   rintro obj s₁ ⟨rfl,rfl⟩
   have hT:Shared.TypeIs { s with heap:=s.heap.push { cls:=.type "dict",data:=.dict #[] } } (.ref s.heap.objs.size) "dict":=⟨_,hgt _,rfl⟩
   refine⟨hT,F.args_dict_init_2 _ _,?_⟩
   unfold Builtin.«dict.__init__»
   refine wpAny_bind ?_
   unfold Builtin.Dict.selfAndRest
   refine wpAny_bind (wpAny_notOrdered_dict hT ?_)
   show wpAny _ _ (pure (s.heap.objs.size,[Value.ref l])) _ _ _
   refine wpAny_pure ?_
   show wpAny _ _ (Builtin.Dict.updateFrom "dict.__init__" s.heap.objs.size (.ref l) [] .none) _ _ _
   unfold Builtin.Dict.updateFrom
   have hq1:=hq.ext x1
   obtain⟨its,rits,pl,hz⟩:=I1.list hq1.sq
   obtain⟨o,m,h1,h2,h3,h4⟩:=id pl
   refine wpAny_bind (wpAny_typeOf ⟨o,h1,h2⟩ ?_)
   rw [if_pos (by decide)]
   refine wpAny_bind (p6 (A:=X.A.in1.in1) h1 h2 h4 h3 (by simp [hr.hd]) fun h' tk hk=>?_)
   rw [if_pos (by rfl)]
   have I2:Inv X pins σ (upd H s.heap.objs.size (dO s.heap.objs.size [] 0)) { s with heap:=h',toks:=tk }:=I1.kept (t':=tk) hk
   refine wpAny_bind (wpAny_rule (wpAny_bind (wpAny_pyIter_list (pl.keeps hk).isList ?_)))
   have I3:Inv X pins σ (upd H s.heap.objs.size (dO s.heap.objs.size [] 0)) { s with heap:=h'.push { cls:=.type "list_iterator",data:=.fields #[.ref l,.int 0 0] },toks:=tk }:=I2.kept (t':=tk) fun b u e=>Heap.get?_push_of_some _ e
   refine wpAny_pure ⟨plainId_quiet F.cv _,?_⟩
   refine ql (A:=X.A.in1) (by rw [in1_units];have:=hr.units;omega) (by simp [hr.hd]) qs 0 I3 G1 j0 hq1 (ag.ext x1 _ hrl) hqs hg2 ⟨_,Heap.get?_push_size _ rfl,rfl,rfl⟩ (I2.gv (Nat.le_refl _) (I2.hok.fresh (Nat.le_refl _))) fun s' H' I' x' G'=>?_
   refine⟨.ref s.heap.objs.size,H',I',rfl,p H' _ _ (x1.trans x') G' ?_⟩
   simp only [Rel]
   exact⟨_,rfl,j0⟩
 . cases q
end
end L3
namespace HX
open PySem
def rl (x:Nat):Nat:=(x*2147483648) % 18446744073709551616+x / 8589934592
def gx (w:Nat):Nat:=let y:=((w+18446744073709551616-2870177450013471924) % 18446744073709551616)*614540362697595703 % 18446744073709551616;y % 2147483648*8589934592+y / 2147483648
def out (w:Nat):Int:=if(w == 18446744073709551616-1)=true then 1546275796 else if w<9223372036854775808 then(w:Int) else(w:Int)-18446744073709551616
end HX
set_option maxRecDepth 10000
namespace HX
open PySem
theorem el (a b:Int):[a,b].length=2:=rfl
theorem ec:((18446744073709551616:Nat):Int)=18446744073709551616:=rfl
end HX
namespace L3
open PySem PySem.Spec PyProof.Rows L2 SeqAt DK HX
end L3
namespace L3
open PySem PySem.Spec PyProof.Rows L2
end L3
namespace RI
open PySem PySem.Spec PyProof.Rows L2 L3
def FR:dZ:=⟨"dict",iY,fun hr _=>.inr ⟨_,z8 hr,boot_dict⟩⟩
end RI
namespace PySem
end PySem
namespace L3
open PySem PySem.Spec PyProof.Rows L2 SeqAt DK
end L3
namespace DK
open PySem PySem.Spec PyProof.Rows L2 L3
theorem vY {prog:Program}{w:World}{A:Around}(hh:A.handled=none)(I d:Addr)(hne:d≠I)(es:Array DictEntry)(ep:Nat) :
  Walks prog w A I [I,d] [I] es.size (fun i v=>∃e,es[i]? = some e/\v=e.key) (fun i h=>h.IsKeyIter I d i es.size ep/\h.get? d=some { cls:=.type "dict",data:=.dict es ep }) where
 sub:=fun b hb=>by simp at hb;simp [hb]
 frame:=fun _ _ _ st hk=>⟨st.1.at fun o e=>hk I (by simp) o e,hk d (by simp) _ st.2⟩
 item:=fun i s Q E hi st hQ=>by
  have he:es[i]? = some es[i]:=by simp [hi]
  refine next_item st.1 st.2 rfl he fun h' hit' hs'=>?_
  exact hQ _ h' s.toks ⟨_,he,rfl⟩ ⟨hit',hs'.extBut d _ hne st.2⟩ fun b o hb e=>hs'.extBut b o (fun h=>hb (by simp [h])) e
 done:=fun s Q E st hQ=>next_end hh st.1 st.2 rfl (Nat.le_refl _) fun h' he'=>hQ h' s.toks fun b o hb e=>he' b o (fun h=>hb (by simp [h])) e
 self:=fun _ _ _ _ st hQ=>wpAny_pyIter_keyiter st.1 hQ
theorem Ba {prog:Program}{w:World}{d:Addr}{es:Array DictEntry}{ep:Nat}(lo:(d == sysModules)=false) :
  PySem.W.KdlSrc prog w "dict" d d es.size (fun i v=>∃e,es[i]? = some e/\v=e.key) (fun h=>h.get? d=some { cls:=.type "dict",data:=.dict es ep }) where
 type:=fun _ hm=>⟨_,hm,rfl⟩
 there:=fun _ hm=>⟨Heap.lt_size hm,Heap.lt_size hm⟩
 keep:=fun _ _ hm hk=>hk d (.inl rfl) _ hm
 notList:=by decide
 notTuple:=by decide
 hint:=fun _ _ _ _ hm hq=>PySem.W.kdl_hint_dict ⟨_,hm,rfl⟩ hq
 iter:=fun _ _ hh hm=>⟨_,_,(fun _ _ hq=>qg lo hm hq),vY hh _ d (Nat.ne_of_lt (Heap.lt_size hm)) es ep,⟨⟨_,Heap.get?_push_size _ rfl,rfl,rfl⟩,Heap.get?_push_of_some _ hm⟩⟩
theorem xo {K H ι}{xs:List D}{es:List DictEntry}(en:Ent K H ι xs es):∃ks:List V,Vals ks (es.map (·.key))/\ag K H ι (aO xs) ks:=by
 induction en with
 | nil=>exact⟨[],.nil,by simp [aO,ag]⟩
 | cons _ _ rk rv _ _ _ ih =>
  obtain⟨ks,h1,h2⟩:=ih
  exact⟨_::ks,.cons rv h1,by simp only [aO,ag];exact⟨_,_,rfl,rk,h2⟩⟩
end DK
namespace L3
open PySem PySem.Spec PyProof.Rows L2 SeqAt DK
end L3
namespace L3
open PySem PySem.Spec PyProof.Rows L2
abbrev vy:Ix:=⟨[],[],fun _=>0⟩
theorem ip.i0 {K H ι a xs}(h:ip K H ι a xs):ip K H vy a xs:=by
 rcases h with⟨h,_⟩ | h
 . exact .inl ⟨h,by simp⟩
 . exact .inr h
theorem hU.i0 {K H ι a xs}(h:hU K H ι a xs):hU K H vy a xs:=by
 rcases h with⟨h,_⟩ | h
 . exact .inl ⟨h,by simp,by simp⟩
 . exact .inr h
mutual
theorem Rel.i0 {K H ι}:∀(d:D) {v:V},flat d=true->Rel K H ι d v->Rel K H vy d v
 | .non,v,_,h=>by simpa [Rel] using h
 | .bl _,v,_,h=>by simpa [Rel] using h
 | .int _,v,_,h=>by simpa [Rel] using h
 | .str _,v,_,h=>by simpa [Rel] using h
 | .tup xs,v,f,h=>by
  simp only [Rel] at h ⊢
  obtain⟨a,vs,e1,hq,hr⟩:=h
  exact⟨a,vs,e1,hq.i0,ag.i0 xs (by simpa [flat] using f) hr⟩
 | .lst xs,v,f,h=>by
  simp only [Rel] at h ⊢
  obtain⟨a,vs,e1,hq,hr⟩:=h
  exact⟨a,vs,e1,hq.i0,ag.i0 xs (by simpa [flat] using f) hr⟩
 | .edc,v,f,h=>by cases f
 | .ref n,v,f,h=>by cases f
 | .aI n,v,f,h=>by cases f
 | .fn x,v,f,h=>by cases f
theorem ag.i0 {K H ι}:∀(ds:List D) {vs:List V},aS ds=true->ag K H ι ds vs->ag K H vy ds vs
 | [],vs,_,h=>by simpa [ag] using h
 | d::ds,vs,f,h=>by
  simp only [aS,Bool.and_eq_true] at f
  simp only [ag] at h ⊢
  obtain⟨v,vr,e1,hq,hr⟩:=h
  exact⟨v,vr,e1,Rel.i0 d f.1 hq,ag.i0 ds f.2 hr⟩
end
def dr (d:D)(g:G):D:=match d with
 | .ref n=>(match g[n]? with | some xs=>.lst xs | none=>.ref n)
 | d=>d
theorem vn {K H ι g d v}(G0:ay K H ι g)(r:Rel K H ι d v)(f:flat (dr d g)=true):Rel K H vy (dr d g) v:=by
 cases d with
 | ref n =>
  cases hx:g[n]? with
  | none =>
   have e:dr (.ref n) g = .ref n:=by simp only [dr,hx]
   rw [e] at f
   cases f
  | some xs =>
   have e:dr (.ref n) g = .lst xs:=by simp only [dr,hx]
   rw [e] at f ⊢
   simp only [Rel] at r
   obtain⟨a,rfl,ha⟩:=r
   obtain⟨vs,hH,hr⟩:=G0.at hx ha
   simp only [Rel]
   exact⟨a,vs,rfl,.inl ⟨.inl hH,by simp,by simp⟩,ag.i0 xs (by simpa [flat] using f) hr⟩
 | _=>exact Rel.i0 _ f r
def df (d1 d2:D)(g:G):Option (D×G):=if(flat (dr d1 g)&&flat (dr d2 g)&&decide (dep (dr d1 g)<=60))=true then some (.bl (!aB (dr d1 g) (dr d2 g)),g) else none
theorem vq {X:Cx}(hu:X.A.units+64<cLine):bw X (compareOp .NotEq) (cA X.kw df):=by
 intro pins s σ H x y v u Q I rx ry q
 obtain⟨ι,g,d1,d2,d,g',G0,r1,r2,q,p⟩:=q
 unfold df at q
 split at q
 . rename_i z
   simp only [Bool.and_eq_true,decide_eq_true_eq] at z
   cases q
   exact wC I _ _ z.1.1 z.1.2 (vn G0 r1 z.1.1) (vn G0 r2 z.1.2) rx ry (by omega) _ _ _ _ ⟨.bl _,H,I,rfl,p H ι _ Ext.refl G0 (by simp [Rel])⟩
 . cases q
end L3
namespace RI
open PySem PySem.Spec PyProof.Rows L2 L3
def vt (c:Cs)(l:Expr):Bool:=qm c l||(match l with | .Call (.Name _ _) _ _ _=>true | _=>false)
def JG:mx where
 e:=fun m c E _ x=>match x with
  | .Compare l [.NotEq] [b] _=>if vt c l && !(isSet b) then some (aj df (E l) (E b)) else none
  | _=>none
 eok:=by
  intro m c X E g hE rf x f h
  split at h
  . split at h
    . rename_i hh
      simp only [Bool.and_eq_true,Bool.not_eq_true'] at hh
      cases h
      exact uX (vq g.hu) (hE _) (hE _) (marks hh.2)
    . cases h
  . cases h
 t:=fun m c E x=>match x with
  | .Compare l [.NotEq] [b] _=>if vt c l && !(isSet b) then some (az (aj df (E l) (E b))) else none
  | _=>none
 tok:=by
  intro m c X E g hE x f h
  split at h
  . split at h
    . rename_i hh
      simp only [Bool.and_eq_true,Bool.not_eq_true'] at hh
      cases h
      exact wB (vq g.hu) (hE _) (hE _) (marks hh.2)
    . cases h
  . cases h
end RI
namespace PySem
namespace F
theorem u5:typeLookup (.type "list_reverseiterator") "__len__" = pure none:=by rw [typeLookup_type,builtinLookup_eq_fast];kernel_rfl
theorem yK:typeLookup (.type "list_reverseiterator") "__length_hint__" = pure (some (.builtin "list_reverseiterator.__length_hint__")):=by rw [typeLookup_type,builtinLookup_eq_fast];kernel_rfl
end F
section
variable {prog:Program}{w:World}{A:Around}{E:Value->Shared->Prop}{s:Shared}
theorem i5 {x:Value}{Q:List Value->Shared->Prop}
  (h:∀R:Result->Shared->Prop,(∀(h':Heap) (tk:Nat) (acc':Array Value) (c':Nat),h'.get? s.heap.objs.size=some { cls:=.type "list",dict:=none,data:=.seq acc' c',slots:=#[] }->Q acc'.toList { s with heap:=h',toks:=tk }->R (.ok (.ret (.ref s.heap.objs.size))) { s with heap:=h',toks:=tk }) ->
   wpAny (model prog w) A.in1 (Builtin.List.listExtendWith (.ref s.heap.objs.size) x (.ref s.heap.objs.size))
    (fun fin s'=>match fin with | .done f=>R (.ok f) s' | .again c'=>c'.quiet=true/\codeAny (model prog w) A c' R s') (fun e s'=>R (.error e) s') { s with heap:=s.heap.push { cls:=.type "list",data:=.seq #[] } }) :
  wpAny (model prog w) A (collect x) Q E s:=by
 unfold collect
 refine wpAny_bind (wpAny_runValue (codeAny_builtin F.entry_proto_collect ?_))
 rw [Around.under_plainId F.plain_proto_collect _]
 show wpAny _ A.in1 (newList [] >>= fun l=>again (.builtin "list.__iadd__" ⟨[l,x],[]⟩)) _ _ s
 refine wpAny_bind (wpAny_newObj_type ?_)
 refine wpAny_pure ⟨plainId_quiet F.plain_list_iadd _,codeAny_builtin F.entry_list_iadd ?_⟩
 rw [Around.under_plainId F.plain_list_iadd _]
 show wpAny _ A.in1 (Builtin.List.listExtendWith (.ref s.heap.objs.size) x (.ref s.heap.objs.size)) _ _ _
 refine h (wants _ E) fun h' tk acc' c' hS hq=>?_
 show wpAny _ A (load s.heap.objs.size >>= _) _ _ _
 refine wpAny_bind (wpAny_load hS ?_)
 exact wpAny_pure hq
theorem yT {I:Addr}{T:String}{Q:Value->Shared->Prop}(hTI:s.TypeIs (.ref I) T)(hne:(Value.type T == Value.type "tuple")=false)
  (h:∀A':Around,A'.handled=A.handled->∀(E':Value->Shared->Prop) (Q':List Value->Shared->Prop),(∀(h':Heap) (tk:Nat) (acc:Array Value),acc.size<=sizeLine->Q (.ref h'.objs.size) { s with heap:=h'.push { cls:=.type "tuple",data:=.seq acc },toks:=tk }->Q' acc.toList { s with heap:=h',toks:=tk })->wpAny (model prog w) A' (collect (.ref I)) Q' E' s) :
  wpAny (model prog w) A (call (.type "tuple") [.ref I]) Q E s:=by
 refine callType_codes (Q₁:=fun obj s₁=>s₁.TypeIs obj "tuple" /\ Q obj s₁) F.called_tuple (F.typeCall_tuple_1 _) F.entry_object_init ?_ fun obj s₁ h₁ =>
  ⟨h₁.1,F.args_object_init_2 obj _,object_init_meets F.called_tuple.init.lookup F.called_tuple.made (by decide) prog w A.in1 _ s₁ ⟨h₁.1,rfl,h₁.2⟩⟩
 refine codeAny_of_tree ?_
 show wpAny _ A.in1.in1 (do checkBuiltinCall "tuple.__new__" ⟨[.type "tuple",.ref I],[]⟩;again (.builtin "tuple.__new__" ⟨[.type "tuple",.ref I],[]⟩)) _ _ s
 refine wpAny_bind (wpAny_of_eq (F.newCall_tuple_1 _) (wpAny_pure ⟨plainId_quiet F.plain_tuple_new _,codeAny_builtin F.entry_tuple_new ?_⟩))
 rw [Around.under_plainId F.plain_tuple_new _]
 have hsub:=sub_tuple_self
 have hinit:=init_tuple_lookup
 have hmh:=madeHere_tuple
 wp_walk using wpAny_typeOf hTI,(h A.in1.in1 rfl)
 intro h' tk acc hz hq
 show wpAny _ _ (Builtin.Tuple.tupleExact acc.toList.toArray >>= fun v=>ret v) _ _ _
 unfold Builtin.Tuple.tupleExact
 refine wpAny_bind (wpAny_newObj_type ?_ (by show acc.toList.toArray.size<=sizeLine;simpa using hz))
 refine wpAny_pure ?_
 have e:acc.toList.toArray=acc:=by simp
 rw [e]
 exact⟨⟨_,Heap.get?_push_size _ rfl,rfl⟩,hq⟩
theorem uh {R:Result->Shared->Prop}{I l:Addr}{items:Array Value}(hh:A.handled=none)(hit:s.heap.IsRevIter I l ((items.size:Int)-1))(hl:s.heap.IsList l items)(hne:l≠I)(hsz:items.size<=sizeLine)(S:Addr)(hSI:S≠I)(hSl:S≠l)(res:Value)(c₀:Nat)
   (hS:s.heap.get? S=some { cls:=.type "list",data:=.seq #[] c₀ })
   (hR:∀(h':Heap) (tk:Nat) (acc':Array Value) (c':Nat),(∀b o,b≠S->b≠I->s.heap.get? b=some o->h'.get? b=some o)->h'.get? S=some { cls:=.type "list",dict:=none,data:=.seq acc' c',slots:=#[] } ->
    ItemsOf (fun i v=>items[items.size-1-i]? = some v) acc' items.size->R (.ok (.ret res)) { s with heap:=h',toks:=tk }) :
   wpAny (model prog w) A.in1 (Builtin.List.listExtendWith (.ref S) (.ref I) res)
    (fun fin s'=>match fin with | .done f=>R (.ok f) s' | .again c'=>c'.quiet=true/\codeAny (model prog w) A c' R s') (fun e s'=>R (.error e) s') s:=by
 have W:=(Walks.listRev (prog:=prog) (w:=w) (A:=A.in1) hh I l hne items).toS
 have hSf:S ∉ [I,l]:=by simp only [List.mem_cons,List.not_mem_nil,or_false,not_or];exact⟨hSI,hSl⟩
 have hst:(0:Nat)<=items.size/\s.heap.IsRevIter I l ((items.size:Int)-1-((0:Nat):Int))/\s.heap.IsList l items:=⟨Nat.zero_le _,by simpa using hit,hl⟩
 have h1:Builtin.List.listSameRef (.ref S) (.ref I)=false:=by simp [Builtin.List.listSameRef,hSI]
 unfold Builtin.List.listExtendWith
 refine wpAny_bind (wpAny_typeOf hit.typeIs ?_)
 rw [if_neg (by rw [h1];decide)]
 refine wpAny_bind (wpAny_pyIter_revIter hit ?_)
 refine wpAny_bind (wpAny_holding ?_)
 unfold Builtin.List.listLengthHint
 refine wpAny_bind (wpAny_specialOf hit.typeIs F.u5 ?_)
 show wpAny _ A.in1 (specialOf (Value.ref I) (Str.ofString "__length_hint__") >>= _) _ _ _
 refine wpAny_bind (wpAny_specialOf hit.typeIs F.yK ?_)
 (generalize hid:("list_reverseiterator.__length_hint__":String)=id0;(fail_if_success (clear hid id0));wp_delta;rw [show splitId id0=some ("list_reverseiterator","__length_hint__") from by subst hid;decide +kernel];subst hid)
 refine wpAny_bind (wpAny_isInstance (b:=true) hit.typeIs (by rw [isSubtype_type];kernel_rfl) ?_)
 refine wpAny_pure ?_
 rw [if_neg (by decide)]
 refine wpAny_pure ⟨plainId_quiet F.plain_extend_loop _,codeAny_extend_loopS W hsz _ hSf _ items.size 0 _ _ _ rfl (Nat.zero_le _) hst hS (ItemsOf.nil _) fun s' acc' c' hm hS' hacc=>?_⟩
 rw [Moved.eq_with hm]
 refine hR s'.heap s'.toks acc' c' (fun b o n1 n2 e=>hm.heap b o (fun hmem=>?_) e) hS' hacc
 rcases List.mem_cons.mp hmem with e' | hmem
 . exact n1 e'
 . exact n2 (List.mem_singleton.mp hmem)
theorem ng {Q:Value->Shared->Prop}{I l:Addr}{items:Array Value}(hh:A.handled=none)(hit:s.heap.IsRevIter I l ((items.size:Int)-1))(hl:s.heap.IsList l items)(hne:l≠I)(hsz:items.size<=sizeLine){h0:Heap}(h00:∀b o,h0.get? b=some o->s.heap.get? b=some o)(h01:h0.get? I=none)
  (hQ:∀(h':Heap) (tk:Nat) (acc:Array Value),(∀b o,h0.get? b=some o->h'.get? b=some o)->ItemsOf (fun i v=>items[items.size-1-i]? = some v) acc items.size->Q (.ref h'.objs.size) { s with heap:=h'.push { cls:=.type "tuple",data:=.seq acc },toks:=tk }) :
  wpAny (model prog w) A (call (.type "tuple") [.ref I]) Q E s:=by
 refine yT (T:="list_reverseiterator") hit.typeIs (by decide) fun A' hA E' Q' k=>i5 fun R kR=>?_
 have hIs:I<s.heap.objs.size:=by obtain⟨o,ho,_⟩:=hit;exact Heap.lt_size ho
 have hls:l<s.heap.objs.size:=by obtain⟨o,ho,_⟩:=hl;exact Heap.lt_size ho
 refine uh (A:=A') (hA.trans hh) (hit.at fun o e=>Heap.get?_push_of_some _ e) (hl.at fun o e=>Heap.get?_push_of_some _ e) hne hsz s.heap.objs.size (Nat.ne_of_gt hIs) (Nat.ne_of_gt hls) _ _ (Heap.get?_push_size _ rfl) fun h' tk acc' c' hk hS hi=>?_
 have keep:∀b o,h0.get? b=some o->h'.get? b=some o:=fun b o e=>hk b o (Nat.ne_of_lt (Heap.lt_size (h00 b o e))) (fun z=>by rw [z,h01] at e;cases e) (Heap.get?_push_of_some _ (h00 b o e))
 exact kR h' tk acc' c' hS (k h' tk acc' (by rw [hi.1];exact hsz) (hQ h' tk acc' keep hi))
end
end PySem
namespace L3
open PySem PySem.Spec PyProof.Rows L2
section
variable {X:Cx}
def lK (fe:FE):FE:=fun σ g=>(fe σ g).bind fun r=>(dP r.1 r.2).bind fun xs=>if aF xs.length=true then some (.tup xs.reverse,r.2) else none
theorem BI {p p2 pos pos2:Pos}{a:Expr}{fe:FE}(hA:X.A.handled=none)(hgl:Gl X "tuple")(hml:X.mg "tuple" = none)(hgr:Gl X "reversed")(hmr:X.mg "reversed" = none)(ha:DE X a fe)
   (hs:starEach [a] X.env = [(false,eval a X.env)]) (hs2:starEach [.Call (.Name "reversed" p2) [a] [] pos2] X.env = [(false,eval (.Call (.Name "reversed" p2) [a] [] pos2) X.env)]:=by rfl) :
   DE X (.Call (.Name "tuple" p) [.Call (.Name "reversed" p2) [a] [] pos2] [] pos) (lK fe):=.of (by
 intro pins s σ H Q I h
 obtain⟨ι,σd,g,d,g',G0,S0,h,pq⟩:=h
 obtain⟨⟨d1,g1⟩,h1,h⟩:=bind_some h
 obtain⟨xs,hxs,h⟩:=bind_some h
 split at h
 . rename_i hz
   cases h
   have hdA:DA X [a] (af fe ao):=kq ha qd hs
   refine wpAny_Call_Name_kw (eY I hgl hml boot_tuple ?_ (by decide) (by decide))
   refine PyProof.Rows.callWith_type1 ?_ hs2 rfl
   rw [hs2]
   show wpAny _ _ (spliced ((false,eval (.Call (.Name "reversed" p2) [a] [] pos2) X.env) :: [])) _ _ s
   refine Calls.spliced_cons ?_
   refine Call_ (eY I hgr hmr boot_reversed (PyProof.Rows.callWith_type1 (aU (hdA.un pos2 pins s σ H (fun vs H1=>∃ι1,Ext H ι H1 ι1/\ay X.kw H1 ι1 g1/\ag X.kw H1 ι1 [d1] vs) I ⟨ι,σd,g,[d1],g1,G0,S0,by simp [h1],fun H1 ι1 vs e1 G1 r1=>⟨ι1,e1,G1,r1⟩⟩) fun us s1 ⟨vs,H1,I1,r1,ι1,e1,G1,rl⟩=>?_) hs rfl))
   simp only [ag] at rl
   obtain⟨v0,vr,rfl,rv0,rfl⟩:=rl
   obtain⟨u0,rfl,ru⟩:=vals1 r1
   obtain⟨b,vs,rfl,hq,hr⟩:=fQ G1 rv0 hxs
   cases ru
   obtain⟨its,rits,pl,hzl⟩:=I1.list hq
   have hlz:=aF.le hz
   refine call_reversed_list pl.isList ?_
   refine Calls.spliced_nil ?_
   have hbs:b<s1.heap.objs.size:=by obtain⟨o,m,ho,_⟩:=pl;exact Heap.lt_size ho
   have hnI:s1.heap.get? s1.heap.objs.size=none:=Heap.get?_none_of_le (Nat.le_refl _)
   refine ng (l:=b) (items:=its.toArray) (h0:=s1.heap) hA ⟨_,Heap.get?_push_size _ rfl,rfl,rfl⟩ (pl.isList.at fun o e=>Heap.get?_push_of_some _ e) (Nat.ne_of_lt hbs) (by rw [List.size_toArray,<- rits.length];exact hzl) (fun b o e=>Heap.get?_push_of_some _ e) hnI fun h' tk acc hk hi=>?_
   have I3:L2.Inv X pins σ H1 { s1 with heap:=h',toks:=tk }:=I1.kept hk
   have ea:acc.toList=its.reverse:=by
    obtain⟨q1,q2⟩:=hi
    have q1:acc.size=its.length:=by simpa using q1
    refine List.ext_getElem? fun j=>?_
    rw [Array.getElem?_toList]
    cases hj:acc[j]? with
    | none =>
     have:acc.size<=j:=Array.getElem?_eq_none_iff.mp hj
     rw [q1] at this
     rw [List.getElem?_eq_none (by rw [List.length_reverse];exact this)]
    | some v =>
     have:=q2 j v hj
     have hjl:j<acc.size:=(Array.getElem?_eq_some_iff.mp hj).1
     rw [q1] at hjl
     rw [List.getElem?_reverse hjl]
     simpa using this.symm
   have vrev:Vals vs.reverse its.reverse:=by
    have:∀{xs:List V} {us:List Value},Vals xs us->Vals xs.reverse us.reverse:=fun {xs us} r=>by
     induction r with
     | nil=>exact .nil
     | cons a b ih=>rw [List.reverse_cons,List.reverse_cons];exact Vals.append ih (.cons a .nil)
    exact this rits
   have rrev:ag X.kw H1 ι1 xs.reverse vs.reverse:=by
    have:∀(xs:List D) {vs:List V},ag X.kw H1 ι1 xs vs->ag X.kw H1 ι1 xs.reverse vs.reverse:=fun xs=>by
     induction xs with
     | nil=>intro vs h;simp only [ag] at h;subst h;simp [ag]
     | cons x xs ih =>
      intro vs h
      simp only [ag] at h
      obtain⟨v,vr,rfl,h1,h2⟩:=h
      rw [List.reverse_cons,List.reverse_cons]
      exact ag.append (ih h2) (by simp only [ag];exact⟨v,[],rfl,h1,rfl⟩)
    exact this xs hr
   have I4:L2.Inv X pins σ _ { s1 with heap:=h'.push { cls:=.type "tuple",data:=.seq acc },toks:=tk }:=I3.laid (t':=tk) (o:=.tup vs.reverse) (fun b o e=>Heap.get?_push_of_some _ e) (Nat.le_refl _) ⟨by rw [List.length_reverse];exact hzl,acc.toList,by rw [ea];exact vrev,by rw [Array.toArray_toList];exact dG.new _ _⟩
   have hfr:H1 h'.objs.size=none:=I3.fresh
   refine⟨.ref _,_,I4,rfl,pq _ ι1 _ (e1.trans (Ext.lay hfr)) (G1.lay hfr) ?_⟩
   simp only [Rel]
   exact⟨_,_,rfl,.inl ⟨.inl aX,G1.fresh hfr⟩,ag.ext (Ext.lay hfr) _ rrev⟩
 . cases h)
end
end L3
namespace RI
open PySem PySem.Spec PyProof.Rows L2 L3
def tG (m:G0)(c:Cs)(f:Str)(x:Expr):Option Expr:=match x with
 | .Call (.Name t _) [.Call (.Name r _) [a] [] _] [] _=>if t == "tuple" && r == f&&c.sc.names.lookup t == some .globalImplicit&&c.sc.names.lookup r == some .globalImplicit&&m.nms.elem t&&m.nms.elem r && !(isStar a) then some a else none
 | _=>none
theorem xa {m:G0}{c:Cs}{f:Str}{x a:Expr}(h:tG m c f x=some a):∃p p2 pos pos2,x = .Call (.Name "tuple" p) [.Call (.Name f p2) [a] [] pos2] [] pos/\c.sc.names.lookup ("tuple":Str)=some .globalImplicit/\c.sc.names.lookup f=some .globalImplicit/\("tuple":Str)∈m.nms/\f∈m.nms/\isStar a=false:=by
 unfold tG at h
 split at h
 . split at h
   . rename_i hh
     simp only [Bool.and_eq_true,beq_iff_eq,Bool.not_eq_true'] at hh
     obtain⟨⟨⟨⟨⟨⟨rfl,rfl⟩,h3⟩,h4⟩,h5⟩,h6⟩,h7⟩:=hh
     cases h
     exact⟨_,_,_,_,rfl,h3,h4,List.elem_iff.mp h5,List.elem_iff.mp h6,h7⟩
   . cases h
 . cases h
def Fp:mx where
 e:=fun m c E _ x=>(tG m c "reversed" x).map fun a=>lK (E a)
 eok:=by
  intro m c X E g hE rf x f h
  obtain⟨a,ha,rfl⟩:=Option.map_eq_some_iff.mp h
  obtain⟨p,p2,pos,pos2,rfl,h1,h2,h3,h4,h5⟩:=xa ha
  exact BI g.rm.hd (g.gl h1) (g.bl _ h3) (g.gl h2) (g.bl _ h4) (hE a) (bV h5)
 t:=B6
 tok:=by intro m c X E g hE x f h;cases h
end RI
namespace PySem
namespace F
end F
end PySem
namespace PyProof.Rows
open PySem
section
variable {prog:Program}{w:World}{A:Around}{E:Value->Shared->Prop}{s:Shared}
theorem xy {h:Heap}{a:Addr}{vs:List Value}{n:Nat}{out:Array Value}(ho:h.get? a=some (seqObj "list" vs.toArray n)):∃c,(sortedHeap h a vs out).get? a=some (seqObj "list" out c):=by
 unfold sortedHeap
 have ha:a<h.objs.size:=Heap.lt_size ho
 have ho1:=get?_update_seq ho (fun _=>#[])
 have ho6:=Heap.get?_push_of_some (seqObj "list" #[] 0) (Heap.get?_push_of_some (seqObj "tuple" vs.toArray 0) ho1)
 exact⟨_,get?_update_seq ho6 (fun _=>out)⟩
theorem wD {h:Heap}{a b:Addr}{vs:List Value}{out:Array Value}{o:Obj}(hb:b≠a)(e:h.get? b=some o):(sortedHeap h a vs out).get? b=some o:=by
 unfold sortedHeap
 rw [Heap.get?_update_other _ _ hb.symm]
 exact Heap.get?_push_of_some _ (Heap.get?_push_of_some _ ((Heap.get?_update_other _ _ hb.symm).trans e))
theorem il {x:Value}{ns:List Int}{Q:Value->Shared->Prop}(h64:ns.length<64)
  (hc:∀(A':Around) (E':Value->Shared->Prop) (Q':List Value->Shared->Prop),A'.handled=A.handled->(∀(h':Heap) (tk:Nat) (vs:List Value),(∀b o,s.heap.get? b=some o->h'.get? b=some o)->s.heap.objs.size<=h'.objs.size->IntsAre vs ns->Q' vs { s with heap:=h',toks:=tk })->wpAny (model prog w) A' (collect x) Q' E' s)
  (h:∀(h':Heap) (tk L c:Nat) (out:Array Value),(∀b o,s.heap.get? b=some o->h'.get? b=some o)->s.heap.objs.size<=L->h'.get? L=some (seqObj "list" out c)->IntsAre out.toList (PySem.W.sortI ns)->Q (.ref L) { s with heap:=h',toks:=tk }) :
  wpAny (model prog w) A (call (.builtin "sorted") [x]) Q E s:=by
 refine Calls.call_function_entry kind_sorted plain_sorted entry_sorted (args_sorted1 _) ?_
 unfold Builtin.«sorted»
 refine wpAny_bind (m:=checkCount "sorted" 1 1 _) (wpAny_pure ?_)
 refine wpAny_bind (hc _ _ _ rfl fun h1 tk1 vs k1 sz1 hI=>?_)
 have hl:vs.length<64:=by rw [hI.length];exact h64
 refine wpAny_bind (wpAny_newList ?_ (by rw [sizeLine_eq];omega))
 have hoL:(h1.push (seqObj "list" vs.toArray 0)).get? h1.objs.size=some (seqObj "list" vs.toArray 0):=Heap.get?_push_size _ rfl
 refine wpAny_bind (wpAny_holding (wpAny_call_entry slot_list_sort ⟨_,hoL,rfl⟩ entry_list_sort (list_sort_tree hoL hI hl fun out ns' a1 a2 a3=>⟨_,rfl,?_⟩) (args_list_sort _)))
 have e:=PySem.W.eq_sortI a2 a3
 subst e
 obtain⟨c,hc⟩:=xy (out:=out) hoL
 refine wpAny_pure ⟨_,rfl,h _ _ h1.objs.size c out (fun b o q=>?_) sz1 hc a1⟩
 have q1:=k1 b o q
 exact wD (Nat.ne_of_lt (Heap.lt_size q1)) (Heap.get?_push_of_some _ q1)
theorem rG {it:Addr}{items:Array Value}{Q:List Value->Shared->Prop}(ht:s.heap.IsTuple it items)(hsz:items.size<=sizeLine)
  (hQ:∀(h':Heap) (tk:Nat),(∀b o,s.heap.get? b=some o->h'.get? b=some o)->s.heap.objs.size<=h'.objs.size->Q items.toList { s with heap:=h',toks:=tk }) :
  wpAny (model prog w) A (collect (.ref it)) Q E s:=by
 obtain⟨o,ho,hc,n,hd⟩:=ht
 refine i5 fun R kR=>?_
 have hS:(s.heap.push { cls:=.type "list",data:=.seq #[] }).get? s.heap.objs.size=some { cls:=.type "list",data:=.seq #[] 0 }:=Heap.get?_push_size _ rfl
 have hS₂:=get?_update_seq (c:="list") (xs:=#[]) (n:=0) hS (· ++ items)
 refine wpAny_extend_seq (hsz:=hsz) (s:={ s with heap:=s.heap.push { cls:=.type "list",data:=.seq #[] } }) _ it _ 0 (T:="tuple") (.inr rfl) hS (Heap.get?_push_of_some _ ho) hc hd ?_
 have e:((#[]:Array Value)++items)=items:=by simp
 refine kR _ s.toks items _ (hS₂.trans (by rw [e])) (hQ _ s.toks (fun b o' hb=>(Heap.get?_update_other _ _ (Nat.ne_of_gt (Heap.lt_size hb))).trans (Heap.get?_push_of_some _ hb)) ?_)
 rw [Heap.size_update,Heap.size_push]
 exact Nat.le_succ _
end
end PyProof.Rows
namespace L3
open PySem PySem.Spec PyProof.Rows L2 SeqAt DK
def fU (xs:List D)(g:G):Option (D×G):=(dk xs).bind fun ns=>if ns.length<64 then some (.lst ((PySem.W.sortI ns).map .int),g) else none
def cK (ds:List D)(g:G):Option (D×G):=match ds with
 | [.tup xs]=>fU xs g
 | [.aI n]=>(g[n]?).bind fun xs=>fU (aO xs) g
 | ds=>j3 ds g
section
variable {X:Cx}
theorem yd (hh:X.A.handled=none)(hu:X.A.units+64<cLine):b7 X (.builtin "sorted") (fI X.kw cK):=by
 intro pins s σ H xs us Q I r q
 obtain⟨ι,g,ds,d,g',G0,r1,q,p⟩:=q
 have fin:∀{ns:List Int},ns.length<64->d = .lst ((PySem.W.sortI ns).map .int)->g'=g->∀(h':Heap) (tk L c:Nat) (out:Array Value),(∀b o,s.heap.get? b=some o->h'.get? b=some o)->s.heap.objs.size<=L->h'.get? L=some (seqObj "list" out c)->IntsAre out.toList (PySem.W.sortI ns)->EP X pins σ Q (.ref L) { s with heap:=h',toks:=tk }:=by
   intro ns z e1 e2 h' tk L c out hk hL hc hO
   subst e1 e2
   have hfr:=I.hok.fresh hL
   have hlo:((PySem.W.sortI ns).map V.int).length<=sizeLine:=by
     rw [List.length_map,(PySem.W.sortI_perm ns).length_eq];exact Nat.le_trans (Nat.le_of_lt z) (by decide)
   refine⟨.ref L,_,I.laid (t':=tk) hk hL (show cz X.prog X.w _ _ _ (.lst ((PySem.W.sortI ns).map V.int)) from⟨hlo,out.toList,c,fZ hO,by simpa [seqObj] using hc⟩),rfl,p _ _ _ (Ext.lay hfr) (G0.lay hfr) ?_⟩
   simp only [Rel]
   exact⟨_,_,rfl,.inl ⟨.inl aX,G0.fresh hfr,G0.fX hfr⟩,lN _⟩
 unfold cK at q
 split at q
 . rename_i ys
   unfold fU at q
   obtain⟨ns,hn,q⟩:=bind_some q
   split at q
   . rename_i z
     cases q
     simp only [ag] at r1
     obtain⟨v,_,rfl,rv,rfl⟩:=r1
     obtain⟨u,rfl,ru⟩:=vals1 r
     simp only [Rel] at rv
     obtain⟨a,vs,rfl,hq,hr⟩:=rv
     cases ru
     obtain⟨its,rits,ht,hz⟩:=I.tuple hq.sq
     have hA:=gi hn hr rits
     refine il z (fun A' E' Q' hA' k=>rG ht (by rw [List.size_toArray,<- rits.length];exact hz) fun h' tk hk sz=>k h' tk _ hk sz (by simpa using hA)) (fin z rfl rfl)
   . cases q
 . rename_i n
   obtain⟨ys,hx,q⟩:=bind_some q
   unfold fU at q
   obtain⟨ns,hn,q⟩:=bind_some q
   split at q
   . rename_i z
     cases q
     simp only [ag] at r1
     obtain⟨v,_,rfl,rv,rfl⟩:=r1
     simp only [Rel] at rv
     obtain⟨a,rfl,ha⟩:=rv
     obtain⟨u,rfl,ru⟩:=vals1 r
     cases ru
     obtain⟨es,vs,c,hH,hkd,hcl,rvs,hhs,nd,sy,sz,rl⟩:=G0.jB hx ha
     have en:=Ent.of rvs hhs rl
     obtain⟨ks,vk,rk⟩:=xo en
     have hA:=gi hn rk vk
     have ho:=gh I hH
     refine il z (fun A' E' Q' hA' k=>i5 fun R kR=>?_) (fin z rfl rfl)
     refine PySem.W.kdl_extend (A:=A') (Ba sy) (hA'.trans hh) (Heap.get?_push_of_some _ ho) s.heap.objs.size (Nat.ne_of_gt (Heap.lt_size ho)) (Nat.ne_of_gt (Heap.lt_size ho)) _ 0 (Heap.get?_push_size _ rfl) (fun h' tk acc' c' hk hS hi=>?_) (by simpa using sz)
     have ea:acc'.toList=es.map (·.key):=by
      obtain⟨h1,h2⟩:=hi
      refine List.ext_getElem? fun j=>?_
      rw [Array.getElem?_toList,List.getElem?_map]
      cases hj:acc'[j]? with
      | none =>
       have:acc'.size<=j:=Array.getElem?_eq_none_iff.mp hj
       rw [h1] at this
       simp at this
       simp [this]
      | some v =>
       obtain⟨e,he,rfl⟩:=h2 j v hj
       simp at he
       simp [he]
     refine kR h' tk acc' c' hS (k h' tk _ (fun b o e=>hk b o (Nat.ne_of_lt (Heap.lt_size e)) (Heap.get?_push_of_some _ e)) (Nat.le_of_lt (Heap.lt_size hS)) (by rw [ea];exact hA))
   . cases q
 . exact yV hu pins s σ H xs us Q I r ⟨ι,g,_,d,g',G0,r1,q,p⟩
end
end L3
namespace RI
open PySem PySem.Spec PyProof.Rows L2 L3
def Di:dZ:=⟨"sorted",cK,fun hr _=>.inl ⟨_,yd hr.hd hr.units,boot_sorted⟩⟩
end RI
namespace L3
open PySem PySem.Spec PyProof.Rows L2 RI
section
variable {σ:Sg}{g:G}{fa fb fo fi:FE}{fr:FA}
@[simp] theorem Ku {xs:List D}{d:D}:aw (.tup xs) d g=iL (.tup xs) d g:=rfl
@[simp] theorem Kx {xs:List D}{d:D}:aw (.lst xs) d g=iL (.lst xs) d g:=rfl
@[simp] theorem rP {n:Nat}{d:D}:aw (.ref n) d g=iL (.ref n) d g:=rfl
@[simp] theorem J8 {n:Nat}{d:D}:aw (.aI n) d g=(g[n]?).bind fun xs=>if bf 6 d=true then(aV xs d).map fun d=>(d,g) else none:=rfl
@[simp] theorem HL {n:Nat}{i v:D}:fE (.ref n) i v g=putD (.ref n) i v g:=rfl
@[simp] theorem Iv {n:Nat}{i v:D}:fE (.aI n) i v g=(g[n]?).bind fun xs=>if(bf 6 i&&iu xs)=true then some (g.set n (bD xs i v)) else none:=rfl
@[simp] theorem Kh {v:D}:dB fo fi v σ g=(fo σ g).bind fun r=>(fi σ r.2).bind fun q=>(fE r.1 q.1 v q.2).map fun g'=>(σ,g'):=rfl
@[simp] theorem rM {isT:D->Bool}{m:D->List D->G->Option (D×G)}:bX isT m fo fr σ g=(fo σ g).bind fun r=>if isT r.1=true then(fr σ r.2).bind fun q=>m r.1 q.1 q.2 else none:=rfl
@[simp] theorem JM:gI σ g=some (.aI g.length,g ++ [[]]):=rfl
@[simp] theorem Kn {n:Nat}:fV (.aI n)=true:=rfl
@[simp] theorem Km {n:Nat}:isRef (.ref n)=true:=rfl
@[simp] theorem JS {xs:List D}:fW (.lst xs)=true:=rfl
@[simp] theorem Ls {n:Nat}{k:D}:gw (.aI n) [k] g=(g[n]?).bind fun xs=>if bf 6 k=true then some ((aV xs k).getD .non,g) else none:=rfl
@[simp] theorem Lx {n:Nat}{k x:D}:gw (.aI n) [k,x] g=(g[n]?).bind fun xs=>if bf 6 k=true then some ((aV xs k).getD x,g) else none:=rfl
@[simp] theorem Lv {n:Nat}{x:D}:bG (.ref n) [x] g=(g[n]?).bind fun xs=>if aF (xs.length+1)=true then some (.non,g.set n (xs ++ [x])) else none:=rfl
@[simp] theorem Kp {n:Nat}{i:Int}:bf n (.int i)=true:=by cases n<;>rfl
@[simp] theorem JW {n:Nat}{d:D}:kJ d (.aI n) g=(g[n]?).bind fun xs=>if bf 6 d=true then some (aV xs d).isSome else none:=rfl
@[simp] theorem Kg {d e:D}:et d e g=(kJ d e g).map fun b=>(.bl b,g):=rfl
@[simp] theorem GG {d e:D}:cW d e g=(kJ d e g).map fun b=>(.bl (!b),g):=rfl
@[simp] theorem JP:isFn .non=false:=rfl
@[simp] theorem Kd {b:Bool}:isFn (.bl b)=false:=rfl
@[simp] theorem JT {b:Int}:isFn (.int b)=false:=rfl
@[simp] theorem IL {b:Str}:isFn (.str b)=false:=rfl
@[simp] theorem Ic {b:List D}:isFn (.tup b)=false:=rfl
@[simp] theorem Jt {b:List D}:isFn (.lst b)=false:=rfl
@[simp] theorem Jk:isFn .edc=false:=rfl
@[simp] theorem IG {b:Nat}:isFn (.ref b)=false:=rfl
@[simp] theorem IC {b:Nat}:isFn (.aI b)=false:=rfl
end
end L3
namespace Pd
open PySem L3 L2
def tF:FS:=ax (aA (fC (.int 0)) (gN 2)) (ax (bH (az (aj oLt (aa 1) (au cU (af (aa 0) (ao))))) (aA (aj aw (aa 0) (aa 1)) (gN 2)) (aR)) (aQ (aG mkRef (af (aj bM (aa 2) (au gn (af (aj uW (aa 2) (aj (aY cu (fun i j=>i ^ j.toNat)) (fC (.int 10)) (fC (.int 18)))) (ao)))) (af (aj aM (aj aM (aj (aY cy (· % ·)) (aa 2) (fC (.int 2305843009213693951))) (aj bM (fC (.int 7919)) (aa 1))) (fC (.int 3))) (af (fC (.int 0)) (ao)))))))
def uu:FS:=ax (bH (az (aj sv (aj aw (aa 0) (fC (.int 0))) (fC (.int 0)))) (ax (aA (aj (aY cy (· % ·)) (aj aw (aa 0) (fC (.int 0))) (aa 1)) (gN 2)) (ax (aA (aj (aY ed (· / ·)) (aj aw (aa 0) (fC (.int 0))) (aa 1)) (dB (aa 0) (fC (.int 0)))) (aQ (aa 2)))) (aR)) (ax (aA (aj aM (aj aw (aa 0) (fC (.int 2))) (fC (.int 1))) (dB (aa 0) (fC (.int 2)))) (ax (aA (aj aw (aa 0) (fC (.int 2))) (gN 3)) (ax (aA (aj (aY cy (· % ·)) (aj bM (aj aw (aa 0) (fC (.int 1))) (aj aM (aj aM (fC (.int 48271)) (aj bM (aj bM (fC (.int 2)) (aa 3)) (aa 3))) (aj bM (fC (.int 65537)) (aa 3)))) (fC (.int 2305843009213693921))) (gN 4)) (ax (aA (aj aM (aj aM (aj (aY cy (· % ·)) (aa 4) (fC (.int 1000003))) (aj bM (aa 3) (fC (.int 99991)))) (fC (.int 11))) (gN 5)) (ax (aA (aj (aY cy (· % ·)) (aj bM (aa 4) (aa 5)) (fC (.int 2305843009213693907))) (gN 4)) (aQ (aj (aY cy (· % ·)) (aj aM (aj (aY ed (· / ·)) (aa 4) (fC (.int 97))) (aj (aY ed (· / ·)) (aa 4) (fC (.int 1000033)))) (aa 1))))))))
def zg (take:Fn):FS:=aQ (aj aw (aa 1) (au take (af (aa 0) (af (au cU (af (aa 1) (ao))) (ao)))))
def within (d:D)(a b:Int):Bool:=match d with | .int i=>decide (a<=i)&&decide (i<=b) | _=>false
def lG (d:D):Bool:=within d (-999999999999) 999999999999
def isVal:Nat->D->Bool
 | 0,d=>lG d
 | n+1,.tup xs=>decide (xs.length<=8)&&xs.all (isVal n)
 | _+1,d=>lG d
mutual
def nf:D->Bool
 | .fn _=>false
 | .tup xs=>qa xs
 | _=>true
def qa:List D->Bool
 | []=>true
 | d::ds=>nf d&&qa ds
end
theorem eV {i j:Int}(h1:-(2 ^ 64)<i)(h2:i<2 ^ 64):cG i j=true:=by
 unfold cG
 rw [Bool.or_eq_true]
 exact .inl (Nat.ble_eq_true_of_le (by omega))
theorem kC {i j:Int}(h1:-(2 ^ 64)<j)(h2:j<2 ^ 64):cG i j=true:=by
 unfold cG
 rw [Bool.or_eq_true]
 exact .inr (Nat.ble_eq_true_of_le (by omega))
theorem lA {i j:Int}(h1:0<j)(h2:j<1073741824):ed i j=true:=by
 unfold ed
 rw [Bool.and_eq_true]
 exact⟨Nat.ble_eq_true_of_le (by omega),Nat.ble_eq_true_of_le (by omega)⟩
theorem fM {i j:Int}(h1:0<j):cy i j=true:=Nat.ble_eq_true_of_le (by omega)
def Hd (g:G)(n:Nat)(B:Int):Prop:=∃a b c:Int,g[n]? = some [.int a,.int b,.int c]/\0<=a/\0<=b/\b<2 ^ 62/\0<=c/\c<=B
theorem Hd.mono {g n B B'}(h:Hd g n B)(hb:B<=B'):Hd g n B':=let⟨a,b,c,h1,h2,h3,h4,h5,h6⟩:=h;⟨a,b,c,h1,h2,h3,h4,h5,by omega⟩
theorem Hd.lt {g n B}(h:Hd g n B):n<g.length:=let⟨_,_,_,h1,_⟩:=h;(List.getElem?_eq_some_iff.mp h1).1
def Fr (n:Nat)(g g':G):Prop:=g'.length=g.length /\ ∀j,j≠n->g'[j]? = g[j]?
theorem Fr.refl {n g}:Fr n g g:=⟨rfl,fun _ _=>rfl⟩
theorem Fr.trans {n g g1 g2}(a:Fr n g g1)(b:Fr n g1 g2):Fr n g g2:=⟨b.1.trans a.1,fun j h=>(b.2 j h).trans (a.2 j h)⟩
theorem Fr.set {n:Nat}{g:G}{xs:List D}:Fr n g (g.set n xs):=⟨by simp,fun j h=>by rw [List.getElem?_set_ne (Ne.symm h)]⟩
theorem GY {a b c:D}:dz [a,b,c] 0=some a:=rfl
theorem j0 {a b c:D}:dz [a,b,c] 1=some b:=rfl
theorem at2 {a b c:D}:dz [a,b,c] 2=some c:=rfl
theorem HW {g:G}{n:Nat}{a b c v:D}(h:g[n]? = some [a,b,c]):putD (.ref n) (.int 0) v g=some (g.set n [v,b,c]):=by unfold putD;simp only [h];rfl
theorem put2 {g:G}{n:Nat}{a b c v:D}(h:g[n]? = some [a,b,c]):putD (.ref n) (.int 2) v g=some (g.set n [a,b,v]):=by unfold putD;simp only [h];rfl
def dS (f:Fn):Prop:=∀(n:Nat) (m:Int) (g:G) (B:Int),B<2 ^ 40->0<m->m<1073741824->Hd g n B ->
 ∃r g',f [.ref n,.int m] g=some (.int r,g')/\0<=r/\r<m/\Hd g' n (B+1)/\Fr n g g'
theorem Bs:dS (aJ false 6 2 uu):=fun n m g B hB hm hm2 h=>by
 obtain⟨a,b,c,hg,ha,hb,hb2,hc,hcB⟩:=h
 have hn:n<g.length:=(List.getElem?_eq_some_iff.mp hg).1
 by_cases h0:0<a
 . refine⟨a % m,g.set n [.int (a / m),.int b,.int c],dE (σ':=[some (.ref n),some (.int m),some (.int (a % m)),none,none,none]) rfl ?_ (by simp),Int.emod_nonneg _ (by omega),Int.emod_lt_of_pos _ hm,⟨a / m,b,c,by simp [hn],Int.ediv_nonneg ha (by omega),hb,hb2,hc,by omega⟩,Fr.set⟩
   simp [uu,hg,GY,h0,fM hm,lA hm hm2,HW hg]
 . have e2:(g.set n [.int a,.int b,.int (c+1)])[n]? = some [.int a,.int b,.int (c+1)]:=by simp [hn]
   generalize hx:b*(48271+2*(c+1)*(c+1)+65537*(c+1)) % 2305843009213693921=x
   have hx0:0<=x:=by rw [<- hx];exact Int.emod_nonneg _ (by decide)
   have hx1:x<2305843009213693921:=by rw [<- hx];exact Int.emod_lt_of_pos _ (by decide)
   generalize hy:x*(x % 1000003+(c+1)*99991+11) % 2305843009213693907=y
   refine⟨(y / 97+y / 1000033) % m,g.set n [.int a,.int b,.int (c+1)],dE (σ':=[some (.ref n),some (.int m),none,some (.int (c+1)),some (.int y),some (.int (x % 1000003+(c+1)*99991+11))]) rfl ?_ (by simp),Int.emod_nonneg _ (by omega),Int.emod_lt_of_pos _ hm,⟨a,b,c+1,e2,ha,hb,hb2,by omega,by omega⟩,Fr.set⟩
   have m1:cG 2 (c+1)=true:=eV (by decide) (by decide)
   have m2:cG (2*(c+1)) (c+1)=true:=kC (by omega) (by omega)
   have m3:cG 65537 (c+1)=true:=eV (by decide) (by decide)
   have m4:cG b (48271+2*(c+1)*(c+1)+65537*(c+1))=true:=eV (by omega) (by omega)
   have m5:cG (c+1) 99991=true:=kC (by decide) (by decide)
   have m6:cG x (x % 1000003+(c+1)*99991+11)=true:=eV (by omega) (by omega)
   have d1:cy (b*(48271+2*(c+1)*(c+1)+65537*(c+1))) 2305843009213693921=true:=fM (by decide)
   have d2:cy x 1000003=true:=fM (by decide)
   have d3:cy (x*(x % 1000003+(c+1)*99991+11)) 2305843009213693907=true:=fM (by decide)
   have d4:cy (y / 97+y / 1000033) m=true:=fM hm
   have q1:ed y 97=true:=lA (by decide) (by decide)
   have q2:ed y 1000033=true:=lA (by decide) (by decide)
   simp [uu,hg,GY,j0,at2,h0,put2 hg,e2,m1,m2,m3,m4,m5,m6,d1,d2,d3,d4,q1,q2,hx,hy]
theorem dS.w {f:Fn}(h:dS f){n:Nat}{m:Int}{g:G}{B:Int}{Q:D×G->Prop}(hB:B<2 ^ 40)(hm:0<m)(hm2:m<1073741824)(hh:Hd g n B)(q:∀r g',0<=r->r<m->Hd g' n (B+1)->Fr n g g'->Q (.int r,g')):wp (f [.ref n,.int m] g) Q:=by
 obtain⟨r,g',e,r0,r1,h1,l1⟩:=h n m g B hB hm hm2 hh
 exact⟨_,e,q r g' r0 r1 h1 l1⟩
def eH (f:Fn):Prop:=∀(n:Nat) (xs:List D) (g:G) (B:Int),B<2 ^ 40->xs ≠ []->xs.length<1000->Hd g n B ->
 ∃d g',f [.ref n,.lst xs] g=some (d,g')/\d∈xs/\Hd g' n (B+1)/\Fr n g g'
theorem AW {t:Fn}(ht:dS t):eH (aJ false 2 2 (zg t)):=fun n xs g B hB hx hl h=>by
 have h1:0<xs.length:=List.length_pos_iff.mpr hx
 obtain⟨r,g',e,r0,r1,h',hl'⟩:=ht n (xs.length:Int) g B hB (by omega) (by omega) h
 have hr:r.toNat<xs.length:=by omega
 have ha:dz xs r=some xs[r.toNat]:=by
  unfold dz gY
  rw [if_pos r0,if_pos r1]
  exact List.getElem?_eq_getElem hr
 refine⟨xs[r.toNat],g',dE (σ':=[some (.ref n),some (.lst xs)]) rfl ?_ hl'.1,List.getElem_mem hr,h',hl'⟩
 simp [zg,e,ha]
theorem eH.w {f:Fn}(h:eH f){n:Nat}{xs:List D}{g:G}{B:Int}{Q:D×G->Prop}(hB:B<2 ^ 40)(hx:xs ≠ [])(hl:xs.length<1000)(hh:Hd g n B)(q:∀d g',d∈xs->Hd g' n (B+1)->Fr n g g'->Q (d,g')):wp (f [.ref n,.lst xs] g) Q:=by
 obtain⟨d,g',e,r0,h1,l1⟩:=h n xs g B hB hx hl hh
 exact⟨_,e,q d g' r0 h1 l1⟩
theorem Hs:cu 10 18=true:=by decide
def l_ (f:Fn):Prop:=∀(ns:List Int) (i:Nat) (g:G),i<=100->∃xs,f [.lst (ns.map .int),.int i] g=some (.ref g.length,g ++ [xs])/\Hd (g ++ [xs]) g.length 0
section
variable {σ σ1:Sg}{g g1:G}{f:FE}{f1 f2:FS}{c:FT}{d:D}
theorem my (h:f1 σ g=some (.nx,σ1,g1)):ax f1 f2 σ g=f2 σ1 g1:=by rw [dy,h];rfl
theorem tY {i:Nat}(h:f σ g=some (d,g1)):aA f (gN i) σ g=some (.nx,σ.set i (some d),g1):=by rw [Ae,h];rfl
theorem Jx (h:c σ g=some (true,g1)):bH c f1 f2 σ g=f1 σ g1:=by rw [iR,h];rfl
theorem JJ (h:c σ g=some (false,g1)):bH c f1 f2 σ g=f2 σ g1:=by rw [iR,h];rfl
end
theorem aL {n:Nat}(h:n<=1000):aF n=true:=by
 rw [Br]
 exact decide_eq_true (by omega)
theorem AA:l_ (aJ true 3 2 tF):=fun ns i g hi=>by
 have fin:∀cell:Int,∃xs,(aQ (aG mkRef (af (aj bM (aa 2) (au gn (af (aj uW (aa 2) (aj (aY cu (fun i j=>i ^ j.toNat)) (fC (.int 10)) (fC (.int 18)))) (ao)))) (af (aj aM (aj aM (aj (aY cy (· % ·)) (aa 2) (fC (.int 2305843009213693951))) (aj bM (fC (.int 7919)) (aa 1))) (fC (.int 3))) (af (fC (.int 0)) (ao)))))) [some (.lst (ns.map .int)),some (.int i),some (.int cell)] g=some (.rt (.ref g.length),[some (.lst (ns.map .int)),some (.int i),some (.int cell)],g ++ [xs])/\Hd (g ++ [xs]) g.length 0:=by
   intro cell
   have q0:0<=cell % 2305843009213693951:=Int.emod_nonneg _ (by decide)
   have q1:cell % 2305843009213693951<2305843009213693951:=Int.emod_lt_of_pos _ (by decide)
   have d1:cy cell 2305843009213693951=true:=fM (by decide)
   have m2:cG 7919 (i:Int)=true:=eV (by decide) (by decide)
   by_cases hc:1000000000000000000<=cell
   . have m1:cG cell 1=true:=kC (by decide) (by decide)
     refine⟨[.int cell,.int (cell % 2305843009213693951+7919*i+3),.int 0],by simp [Hs,hc,m1,m2,d1],?_⟩
     exact⟨cell,cell % 2305843009213693951+7919*i+3,0,by simp,by omega,by omega,by omega,by omega,by omega⟩
   . have m1:cG cell 0=true:=kC (by decide) (by decide)
     refine⟨[.int 0,.int (cell % 2305843009213693951+7919*i+3),.int 0],by simp [Hs,hc,m1,m2,d1],?_⟩
     exact⟨0,cell % 2305843009213693951+7919*i+3,0,by simp,by omega,by omega,by omega,by omega,by omega⟩
 by_cases h:i<ns.length
 . obtain⟨xs,e,hx⟩:=fin ns[i]
   refine⟨xs,se (σ':=[some (.lst (ns.map .int)),some (.int i),some (.int ns[i])]) rfl ?_,hx⟩
   unfold tF
   refine(my (tY (d:=.int 0) (g1:=g) rfl)).trans ?_
   refine(my (σ1:=[some (.lst (ns.map .int)),some (.int i),some (.int ns[i])]) (g1:=g) ((Jx (g1:=g) ?_).trans (tY ?_))).trans e
   . have:(i:Int)<(ns.length:Int):=by omega
     simp [this]
   . have ha:dz (ns.map D.int) (i:Int)=some (.int ns[i]):=Bq (by simp [h])
     simp [ha]
 . obtain⟨xs,e,hx⟩:=fin 0
   refine⟨xs,se (σ':=[some (.lst (ns.map .int)),some (.int i),some (.int 0)]) rfl ?_,hx⟩
   unfold tF
   refine(my (tY (d:=.int 0) (g1:=g) rfl)).trans ?_
   refine(my (σ1:=[some (.lst (ns.map .int)),some (.int i),some (.int 0)]) (g1:=g) ((JJ (g1:=g) ?_).trans rfl)).trans e
   have:¬(i:Int)<(ns.length:Int):=by omega
   simp [this]
def cost:Nat->Int
 | 0=>3
 | n+1=>4+8*(1+cost n)
def sr (f:Fn)(dp:Nat):Prop:=∀(n:Nat) (g:G) (B:Int),0<=B->B+cost dp<2 ^ 40->Hd g n B->∃d g',f [.ref n,.int dp] g=some (d,g')/\isVal dp d=true/\Hd g' n (B+cost dp)/\Fr n g g'
theorem sr.w {f:Fn}{dp:Nat}(h:sr f dp){n:Nat}{g:G}{B:Int}{Q:D×G->Prop}(hB0:0<=B)(hB:B+cost dp<2 ^ 40)(hh:Hd g n B)(q:∀d g',isVal dp d=true->Hd g' n (B+cost dp)->Fr n g g'->Q (d,g')):wp (f [.ref n,.int dp] g) Q:=by
 obtain⟨d,g',e,r0,h1,l1⟩:=h n g B hB0 hB hh
 exact⟨_,e,q d g' r0 h1 l1⟩
theorem l_.w {f:Fn}(h:l_ f){ns:List Int}{i:Nat}{g:G}{Q:D×G->Prop}(hi:i<=100)(q:∀xs,Hd (g ++ [xs]) g.length 0->Q (.ref g.length,g ++ [xs])):wp (f [.lst (ns.map .int),.int i] g) Q:=by
 obtain⟨xs,e,hx⟩:=h ns i g hi
 exact⟨_,e,q xs hx⟩
def dA (i:Int)(n:Nat):List D:=(List.range n).map fun(k:Nat)=>D.int (i+k)
theorem iV {i n}:(dA i n).length=n:=by simp [dA]
theorem lF {fr:FA}{σ:Sg}{g:G}{Q:List D×G->Prop}(h:wp (fr σ g) fun r=>∃j:Int,r.1 = [.int j] /\ -1000000<=j/\j<=1000000/\Q (dA 0 j.toNat,r.2)):wp (gy fr σ g) Q:=by
 obtain⟨⟨ds,g'⟩,e,j,rfl,h1,h2,q⟩:=h
 refine⟨_,?_,q⟩
 unfold gy
 rw [e]
 simp only [Option.bind_some]
 rw [if_pos (fF.of h1 h2)]
 rfl
theorem Bn {i:Int}{n j:Nat}{d:D}(h:(dA i n)[j]? = some d):j<n/\d = .int (i+j):=by
 unfold dA at h
 rw [List.getElem?_map] at h
 cases hj:(List.range n)[j]? with
 | none=>rw [hj] at h;cases h
 | some x =>
  rw [hj] at h
  have hl:=(List.getElem?_eq_some_iff.mp hj).1
  have:x=j:=by rw [List.getElem?_range (by simpa using hl)] at hj;cases hj;rfl
  subst this
  cases h
  exact⟨by simpa using hl,rfl⟩
theorem i4 {n j:Nat}{d:D}(h:(dA 0 n)[j]? = some d):j<n/\d = .int j:=by
 obtain⟨h1,rfl⟩:=Bn h
 exact⟨h1,by simp⟩
theorem j7 {nN nP:Nat}{b:FS}{ds:List D}{g:G}{Q:D×G->Prop}(hl:ds.length=nP)(h:wp (b (ds.map some++List.replicate (nN-nP) none) g) fun r=>∃(k:Nat) (xs:List D),r.1 = .rt (.ref k)/\g.length<=k/\r.2.2[k]? = some xs/\aT g.length xs=true/\(r.2.2.take g.length).all (aT g.length)=true/\Q (.lst xs,r.2.2.take g.length)):wp (aJ false nN nP b ds g) Q:=by
 obtain⟨⟨r,σ,g'⟩,e,k,xs,rfl,h1,h2,h3,h4,q⟩:=h
 dsimp only at *
 unfold aJ
 rw [if_pos hl,e]
 have h5:k<g'.length:=(List.getElem?_eq_some_iff.mp h2).1
 refine⟨_,?_,q⟩
 have z1:¬g'.length=g.length:=by omega
 have z2:¬k<g.length:=by omega
 simp only [Option.bind_some,Bool.false_eq_true,if_false]
 unfold L3.settle
 rw [if_neg z1,if_pos h4]
 dsimp only
 rw [if_neg z2,h2]
 simp only [h3,if_true]
def Clean (g:G):Prop:=∀xs∈g,∀n,aT n xs=true
theorem Clean.fr {n:Nat}{g g':G}{B:Int}(hc:Clean g)(f:Fr n g g')(h:Hd g' n B):Clean g':=by
 intro xs hx m
 obtain⟨j,hj⟩:=List.mem_iff_getElem?.mp hx
 by_cases e:j=n
 . subst e
   obtain⟨a,b,c,h1,_⟩:=h
   rw [h1] at hj
   cases hj
   simp [aT,bp]
 . rw [f.2 j e] at hj
   exact hc xs (List.mem_iff_getElem?.mpr ⟨j,hj⟩) m
theorem Clean.app {g:G}{xs:List D}{B:Int}(hc:Clean g)(h:Hd (g ++ [xs]) g.length B):Clean (g ++ [xs]):=by
 obtain⟨a,b,c,h1,_⟩:=h
 simp at h1
 subst h1
 intro ys hy m
 rcases List.mem_append.mp hy with hy | hy
 . exact hc ys hy m
 . simp at hy
   subst hy
   simp [aT,bp]
theorem Clean.all {g:G}(hc:Clean g)(n:Nat):g.all (aT n)=true:=List.all_eq_true.mpr fun xs hx=>hc xs hx n
theorem cg {n:Nat}:∀{xs:List D},(∀x∈xs,bp n x=true)->aT n xs=true
 | [],_=>rfl
 | x::xs,h=>by
  simp only [aT,Bool.and_eq_true]
  exact⟨h x (by simp),cg fun y hy=>h y (by simp [hy])⟩
theorem yk {n:Nat}(is:List Int):aT n (is.map D.int)=true:=cg fun x hx=>by
 simp only [List.mem_map] at hx
 obtain⟨i,_,rfl⟩:=hx
 rfl
theorem fA {xs:List D}{n:Nat}{d:D}(h:xs[n]? = some d):dz xs (n:Int)=some d:=by
 have hl:=(List.getElem?_eq_some_iff.mp h).1
 have h1:(0:Int)<=n:=by omega
 have h2:(n:Int)<(xs.length:Int):=by omega
 unfold dz gY
 rw [if_pos h1,if_pos h2]
 simpa using h
structure Mk (g gg:G)(n:Nat)(B:Int)(xs:List D):Prop where
 hd:Hd gg n B
 lt:n<g.length
 len:gg.length=g.length+1
 at_:gg[g.length]? = some xs
 old:∀j,j≠n->j<g.length->gg[j]? = g[j]?
theorem Mk.init {g:G}{n:Nat}{B:Int}{xs:List D}(h:Hd g n B):Mk g (g ++ [xs]) n B xs:=by
 have hl:=h.lt
 obtain⟨a,b,c,h1,h2⟩:=h
 exact⟨⟨a,b,c,by rw [List.getElem?_append_left hl];exact h1,h2⟩,hl,by simp,by simp,fun j _ hj=>List.getElem?_append_left hj⟩
theorem Mk.step {g gg g':G}{n:Nat}{B B':Int}{xs:List D}(m:Mk g gg n B xs)(h:Hd g' n B')(f:Fr n gg g'):Mk g g' n B' xs:=by
 have:=m.lt
 exact⟨h,m.lt,by rw [f.1];exact m.len,by rw [f.2 _ (by omega)];exact m.at_,fun j hj hl=>by rw [f.2 j hj];exact m.old j hj hl⟩
theorem Mk.put {g gg:G}{n:Nat}{B:Int}{xs ys:List D}(m:Mk g gg n B xs):Mk g (gg.set g.length ys) n B ys:=by
 have h1:=m.lt
 have h2:=m.len
 obtain⟨a,b,c,h3,h4⟩:=m.hd
 refine⟨⟨a,b,c,by rw [List.getElem?_set_ne (by omega)];exact h3,h4⟩,h1,by simp [h2],by simp [h2],fun j hj hl=>by rw [List.getElem?_set_ne (by omega)];exact m.old j hj hl⟩
theorem Mk.mono {g gg:G}{n:Nat}{B B':Int}{xs:List D}(m:Mk g gg n B xs)(h:B<=B'):Mk g gg n B' xs:=⟨m.hd.mono h,m.lt,m.len,m.at_,m.old⟩
theorem Mk.fin {g gg:G}{n:Nat}{B:Int}{xs:List D}(m:Mk g gg n B xs):Hd (gg.take g.length) n B/\Fr n g (gg.take g.length):=by
 have h1:=m.lt
 have h2:=m.len
 obtain⟨a,b,c,h3,h4⟩:=m.hd
 refine⟨⟨a,b,c,by rw [List.getElem?_take_of_lt h1];exact h3,h4⟩,by simp [h2],fun j hj=>?_⟩
 by_cases hl:j<g.length
 . rw [List.getElem?_take_of_lt hl];exact m.old j hj hl
 . rw [List.getElem?_eq_none (by simp;omega),List.getElem?_eq_none (by omega)]
structure fv (g gg:G)(n:Nat)(B:Int)(xs:List D):Prop where
 hd:Hd gg n B
 lt:n<g.length
 len:g.length+1<=gg.length
 at_:gg[g.length]? = some xs
 old:∀j,j≠n->j<g.length->gg[j]? = g[j]?
theorem fv.step {g gg g':G}{n:Nat}{B B':Int}{xs:List D}(m:fv g gg n B xs)(h:Hd g' n B')(f:Fr n gg g'):fv g g' n B' xs:=by
 have:=m.lt
 exact⟨h,m.lt,by rw [f.1];exact m.len,by rw [f.2 _ (by omega)];exact m.at_,fun j hj hl=>by rw [f.2 j hj];exact m.old j hj hl⟩
theorem fv.put {g gg:G}{n:Nat}{B:Int}{xs ys:List D}(m:fv g gg n B xs):fv g (gg.set g.length ys) n B ys:=by
 have h1:=m.lt
 have h2:=m.len
 obtain⟨a,b,c,h3,h4⟩:=m.hd
 refine⟨⟨a,b,c,by rw [List.getElem?_set_ne (by omega)];exact h3,h4⟩,h1,by simp [h2],?_,fun j hj hl=>by rw [List.getElem?_set_ne (by omega)];exact m.old j hj hl⟩
 rw [List.getElem?_set_self (by omega)]
theorem fv.mono {g gg:G}{n:Nat}{B B':Int}{xs:List D}(m:fv g gg n B xs)(h:B<=B'):fv g gg n B' xs:=⟨m.hd.mono h,m.lt,m.len,m.at_,m.old⟩
theorem fv.inner {g gg g3:G}{n:Nat}{B B':Int}{xs ys:List D}(m:fv g gg n B xs)(k:Mk gg g3 n B' ys):fv g g3 n B' xs:=by
 have h1:=m.lt
 have h2:=m.len
 have h3:=k.len
 exact⟨k.hd,h1,by omega,by rw [k.old _ (by omega) (by omega)];exact m.at_,fun j hj hl=>by rw [k.old j hj (by omega)];exact m.old j hj hl⟩
theorem fv.fin {g gg:G}{n:Nat}{B:Int}{xs:List D}(m:fv g gg n B xs):Hd (gg.take g.length) n B/\Fr n g (gg.take g.length):=by
 have h1:=m.lt
 have h2:=m.len
 obtain⟨a,b,c,h3,h4⟩:=m.hd
 refine⟨⟨a,b,c,by rw [List.getElem?_take_of_lt h1];exact h3,h4⟩,by simp;omega,fun j hj=>?_⟩
 by_cases hl:j<g.length
 . rw [List.getElem?_take_of_lt hl];exact m.old j hj hl
 . rw [List.getElem?_eq_none (by simp;omega),List.getElem?_eq_none (by omega)]
theorem BE {i:Nat}{d:D}{σ:Sg}{g:G}{q:Sg×G}(h:gN i d σ g=some q):q.2=g:=by
 unfold gN at h
 cases h
 rfl
theorem qP {g:G}{p:Nat}{xs:List D}{i:Nat}{v:D}(h:g[p]? = some xs)(hi:i<xs.length):putD (.ref p) (.int i) v g=some (g.set p (xs.set i v)):=by
 have h1:gY xs.length (i:Int)=some i:=by
  unfold gY
  rw [if_pos (by omega),if_pos (by omega)]
  simp
 unfold putD
 simp only [h,h1]
end Pd
namespace Pd
open PySem L3 L2 RI
def sQ:FS:=aQ (ij (aj bO (aj aw (aa 0) (fC (.int 3))) (fC .non)) (aj oLe (aj aw (aa 0) (fC (.int 3))) (aj aw (aa 1) (fC (.int 2)))))
def oN (p:Int):D->Bool
 | .tup [.str x]=>x == "look"
 | .tup [.str x,q,v]=>x == "put" && (within q 0 (p-1)&&isVal 3 v)
 | _=>false
def fY:D->Bool
 | .non=>true
 | _=>false
def jU (b e:D):Bool:=match b with
 | .int i=>decide (0<=i)&&(match e with | .non=>true | .int j=>decide (i<j) | _=>false)
 | _=>false
def jz (p:Int):D->Bool
 | .tup xs=>decide ((xs.length:Int)=p)&&xs.all (isVal 3)
 | _=>false
def ck:D->Bool
 | .tup (.str x::_)=>x == "look"
 | _=>false
def mO (p:Int):D->Bool
 | .tup [h,dd,b,e,t]=>within h 0 9&&(oN p dd&&jU b e)&&(if ck dd && !fY e then jz p t else fY t)
 | _=>false
theorem cR {x:D}{xs:List D}:dz (x::xs) 0=some x:=fA (n:=0) rfl
theorem dD {x y:D}{xs:List D}:dz (x::y::xs) 1=some y:=fA (n:=1) rfl
theorem jZ {x y z:D}{xs:List D}:dz (x::y::z::xs) 2=some z:=fA (n:=2) rfl
theorem mL {x y z w:D}{xs:List D}:dz (x::y::z::w::xs) 3=some w:=fA (n:=3) rfl
theorem nG {x y z w v:D}{xs:List D}:dz (x::y::z::w::v::xs) 4=some v:=fA (n:=4) rfl
theorem eq_str {x y:Str}:aB (.str x) (.str y)=(x == y):=by simp [aB]
theorem pe {t:FG}{c:FT}{e:FE}{cB:D->Bool}{h:D->D}(I:Sg->Prop):∀(ds:List D) (σ:Sg) (g:G),I σ->(∀d∈ds,∀σ,I σ->∃σ1,t d σ g=some (σ1,g)/\c σ1 g=some (cB d,g)/\(cB d=true->e σ1 g=some (h d,g))/\I σ1)->bW t c e ds σ g=some ((ds.filter cB).map h,g)
 | [],_,_,_,_=>rfl
 | d::ds,σ,g,hi,hh=>by
  obtain⟨σ1,h1,h2,h3,h4⟩:=hh d List.mem_cons_self σ hi
  have ih:=pe I ds σ1 g h4 fun x hx=>hh x (List.mem_cons_of_mem _ hx)
  cases hc:cB d with
  | true =>
   rw [hc] at h2
   simp only [bW,h1,h2,h3 hc,Option.bind_some,if_true,ih,List.filter_cons,hc,List.map_cons]
  | false =>
   rw [hc] at h2
   simp only [bW,h1,h2,Option.bind_some,Bool.false_eq_true,if_false,ih,List.filter_cons,hc]
def eD:Option Int->D
 | none=>.non
 | some e=>.int e
structure iW (p:Int)(d:D)(h:Int)(dd:D)(b:Int)(e:Option Int)(tl:D):Prop where
 eq:d = .tup [.int h,dd,.int b,eD e,tl]
 h0:0<=h
 h9:h<=9
 dd_:oN p dd=true
 b0:0<=b
 eb:∀x,e=some x->b<x
theorem sV {p:Int}{d:D}(hr:mO p d=true):∃h dd b e tl,iW p d h dd b e tl:=by
 unfold mO at hr
 split at hr
 . rename_i h dd b e tl
   simp only [Bool.and_eq_true] at hr
   obtain⟨⟨h1,h2,h3⟩,hz⟩:=hr
   clear hz
   unfold within at h1
   split at h1
   . rename_i i
     simp only [Bool.and_eq_true,decide_eq_true_eq] at h1
     unfold jU at h3
     split at h3
     . rename_i j
       simp only [Bool.and_eq_true,decide_eq_true_eq] at h3
       obtain⟨h3,h4⟩:=h3
       split at h4
       . exact⟨i,dd,j,none,tl,rfl,h1.1,h1.2,h2,h3,fun x z=>by cases z⟩
       . rename_i k
         exact⟨i,dd,j,some k,tl,rfl,h1.1,h1.2,h2,h3,fun x z=>by cases z;exact of_decide_eq_true h4⟩
       . cases h4
     . cases h3
   . cases h1
 . cases hr
def hI:D->Int
 | .tup (.int h::_)=>h
 | _=>0
def bI:D->Int
 | .tup [_,_,.int b,_,_]=>b
 | _=>0
def eI:D->Option Int
 | .tup [_,_,_,.int e,_]=>some e
 | _=>none
def mH (o r:D):Bool:=match eI o with
 | some e=>decide (e<=bI r)
 | none=>false
theorem iW.hI {p d h dd b e tl}(r:iW p d h dd b e tl):Pd.hI d=h:=by rw [r.eq];rfl
theorem iW.bI {p d h dd b e tl}(r:iW p d h dd b e tl):Pd.bI d=b:=by rw [r.eq];rfl
theorem iW.eI {p d h dd b e tl}(r:iW p d h dd b e tl):Pd.eI d=e:=by rw [r.eq];cases e<;>rfl
def iU (p:Int)(f:Fn):Prop:=∀o r g,mO p o=true->mO p r=true->f [o,r] g=some (.bl (mH o r),g)
theorem xJ {p:Int}:iU p (aJ false 2 2 sQ):=fun o r g ho hr=>by
 refine dE (σ':=[some o,some r]) rfl ?_ rfl
 obtain⟨h,dd,b,e,tl,R⟩:=sV ho
 obtain⟨h',dd',b',e',tl',R'⟩:=sV hr
 unfold mH
 rw [R.eI,R'.bI,R.eq,R'.eq]
 cases e<;>simp [sQ,mL,jZ,eD,isLit,cx]
structure cE (g gg:G)(n:Nat)(B:Int)(cs:List (List D)):Prop where
 hd:Hd gg n B
 lt:n<g.length
 len:gg.length=g.length+cs.length
 at_:∀i,i<cs.length->gg[g.length+i]? = cs[i]?
 old:∀j,j≠n->j<g.length->gg[j]? = g[j]?
theorem cE.none {g:G}{n:Nat}{B:Int}(h:Hd g n B):cE g g n B []:=⟨h,h.lt,by simp,fun i hi=>by simp at hi,fun j _ _=>rfl⟩
theorem cE.push {g gg:G}{n:Nat}{B:Int}{cs:List (List D)}(m:cE g gg n B cs)(xs:List D):cE g (gg ++ [xs]) n B (cs ++ [xs]):=by
 have hl:=m.len
 have h1:=m.lt
 obtain⟨a,b,c,h2,h3⟩:=m.hd
 refine⟨⟨a,b,c,by rw [List.getElem?_append_left (by omega)];exact h2,h3⟩,h1,by simp [hl];omega,fun i hi=>?_,fun j hj hjl=>by rw [List.getElem?_append_left (by omega)];exact m.old j hj hjl⟩
 by_cases e:i<cs.length
 . rw [List.getElem?_append_left (by omega),List.getElem?_append_left e];exact m.at_ i e
 . have:i=cs.length:=by simp at hi;omega
   subst this
   rw [List.getElem?_append_right (by omega),List.getElem?_append_right (by omega)]
   simp [hl]
theorem cE.step {g gg g':G}{n:Nat}{B B':Int}{cs:List (List D)}(m:cE g gg n B cs)(h:Hd g' n B')(f:Fr n gg g'):cE g g' n B' cs:=by
 have:=m.lt
 exact⟨h,m.lt,by rw [f.1];exact m.len,fun i hi=>by rw [f.2 _ (by omega)];exact m.at_ i hi,fun j hj hl=>by rw [f.2 j hj];exact m.old j hj hl⟩
theorem cE.put {g gg:G}{n:Nat}{B:Int}{cs:List (List D)}(m:cE g gg n B cs)(i:Nat)(ys:List D):cE g (gg.set (g.length+i) ys) n B (cs.set i ys):=by
 have h1:=m.lt
 have h2:=m.len
 obtain⟨a,b,c,h3,h4⟩:=m.hd
 refine⟨⟨a,b,c,by rw [List.getElem?_set_ne (by omega)];exact h3,h4⟩,h1,by simp [h2],fun j hj=>?_,fun j hj hl=>by rw [List.getElem?_set_ne (by omega)];exact m.old j hj hl⟩
 by_cases e:i=j
 . subst e
   simp at hj
   rw [List.getElem?_set_self (by omega),List.getElem?_set_self hj]
 . rw [List.getElem?_set_ne (by omega),List.getElem?_set_ne e];exact m.at_ j (by simpa using hj)
theorem cE.mono {g gg:G}{n:Nat}{B B':Int}{cs:List (List D)}(m:cE g gg n B cs)(h:B<=B'):cE g gg n B' cs:=⟨m.hd.mono h,m.lt,m.len,m.at_,m.old⟩
theorem cE.fin {g gg:G}{n:Nat}{B:Int}{cs:List (List D)}(m:cE g gg n B cs):Hd (gg.take g.length) n B/\Fr n g (gg.take g.length):=by
 have h1:=m.lt
 have h2:=m.len
 obtain⟨a,b,c,h3,h4⟩:=m.hd
 refine⟨⟨a,b,c,by rw [List.getElem?_take_of_lt h1];exact h3,h4⟩,by simp [h2],fun j hj=>?_⟩
 by_cases hl:j<g.length
 . rw [List.getElem?_take_of_lt hl];exact m.old j hj hl
 . rw [List.getElem?_eq_none (by simp;omega),List.getElem?_eq_none (by omega)]
theorem cE.clean {g gg:G}{n:Nat}{B:Int}{cs:List (List D)}(m:cE g gg n B cs)(hc:Clean g):(gg.take g.length).all (aT g.length)=true:=by
 obtain⟨h,f⟩:=m.fin
 exact(hc.fr f h).all _
inductive eE:List D->Prop
 | nil:eE []
 | cons (k:Int) (v:D) {r:List D}:eE r->eE (.int k::v::r)
theorem eJ {a b:Int}:aB (.int a) (.int b)=decide (a=b):=by
 by_cases h:a=b<;>simp [aB,h]
theorem eE.put {xs:List D}(h:eE xs)(k:Int)(v:D):eE (bD xs (.int k) v):=by
 induction h with
 | nil=>exact .cons k v .nil
 | cons j w h ih =>
  simp only [bD,eJ]
  split
  . exact .cons j v h
  . exact .cons j w ih
theorem eE.get {xs:List D}(h:eE xs)(k j:Int)(v:D):aV (bD xs (.int k) v) (.int j)=if k=j then some v else aV xs (.int j):=by
 induction h with
 | nil=>simp [bD,aV,eJ]
 | cons i w h ih =>
  simp only [bD,eJ]
  by_cases e:i=k
  . subst e
    simp [aV,eJ]
    split<;>rfl
  . simp [e,aV,eJ,ih]
    by_cases e2:i=j
    . subst e2
      have:¬k=i:=fun z=>e z.symm
      simp [this]
    . simp [e2]
theorem eE.len {xs:List D}(h:eE xs)(k:Int)(v:D):(bD xs (.int k) v).length<=xs.length+2:=by
 induction h with
 | nil=>simp [bD]
 | cons i w h ih =>
  simp only [bD,eJ]
  split
  . simp
  . simp;omega
theorem lL {xs:List D}(h:xs.length<=1000):iu xs=true:=aL (by omega)
theorem eE.bp {xs:List D}(h:eE xs){n:Nat}(hv:aT n xs=true)(k:Int)(v:D)(hn:L3.bp n v=true):aT n (bD xs (.int k) v)=true:=by
 induction h with
 | nil=>simp [bD,aT,L3.bp,hn]
 | cons i w h ih =>
  simp only [aT,Bool.and_eq_true] at hv
  simp only [bD]
  split
  . simp [aT,hn,hv.1,hv.2.2]
  . simp [aT,hv.1,hv.2.1,ih hv.2.2]
theorem i_ {xs:List D}(h:∀d∈xs,∃j:Int,d = .int j):aS xs=true/\bR xs=0:=by
 induction xs with
 | nil=>exact⟨rfl,rfl⟩
 | cons x xs ih =>
  obtain⟨j,rfl⟩:=h x (by simp)
  obtain⟨h1,h2⟩:=ih fun d hd=>h d (by simp [hd])
  exact⟨by simp [aS,flat,h1],by simp [bR,dep,h2]⟩
def xn:FS:=cc (bX isRef bG (aa 3) (af (aG aD (af (aa 11) (af (aa 8) (af (aG aD (af (aa 10) (af (aa 12) (af (aa 4) (af (pM (az (aj et (aa 10) (aa 5))) (fC .non) (aj aw (aa 6) (aa 10))) ao))))) ao)))) ao))
def yq (take:Fn):FS:=ax (bH (az (aj oEq (au take (af (aa 0) (af (fC (.int 8)) ao))) (fC (.int 0)))) (aA (fC (.bl true)) (dB (aa 5) (aa 10))) aR) xn
def qB (take val:Fn):FS:=ax (aA (aG aD (af (fC (.str "look")) ao)) (gN 12)) (ax (bH (az (aj oLt (au take (af (aa 0) (af (fC (.int 5)) ao))) (fC (.int 3)))) (aA (aG aD (af (fC (.str "put")) (af (au take (af (aa 0) (af (aa 1) ao))) (af (au val (af (aa 0) ao)) ao)))) (gN 12)) aR) (yq take))
def tL (take pick val:Fn):FS:=ax (aA (au pick (af (aa 0) (af (aa 9) ao))) (gN 10)) (ax (aA (aj aM (aj aM (aa 4) (fC (.int 1))) (au pick (af (aa 0) (af (aG b8 (af (fC (.int 0)) (af (fC (.int 1)) (af (fC (.int 2)) (af (fC (.int 4)) (af (fC (.int 9)) ao)))))) ao)))) (dB (aa 6) (aa 10))) (ax (aA (aj aM (aj aM (aj bM (fC (.int 4)) (aa 4)) (fC (.int 1))) (au take (af (aa 0) (af (aj (aY bQ (· - ·)) (aj bM (fC (.int 4)) (aj (aY bQ (· - ·)) (aj aw (aa 6) (aa 10)) (aa 4))) (fC (.int 1))) ao)))) (gN 11)) (qB take val)))
def qu (take pick val:Fn):FS:=ax (aA (aj aM (aa 4) (au pick (af (aa 0) (af (aG b8 (af (fC (.int 0)) (af (fC (.int 1)) (af (fC (.int 1)) (af (fC (.int 2)) (af (fC (.int 5)) ao)))))) ao)))) (gN 4)) (ax (aA (bU bB (gy (af (aa 7) ao)) [none,none,some 4,some 6,some 5] (gN 1) (cL (az (aj cW (aa 1) (aa 4))) (az (aj oLe (bX fV gw (aa 3) (af (aa 1) (af (fC (.int 0)) ao))) (aa 2)))) (aa 1)) (gN 9)) (bH (az (aj ff (aa 9) (aG b8 ao))) (tL take pick val) aR))
def pR (take pick val:Fn):FS:=ax (aA (aG aD (af (aG mkRef ao) (af (fC (.int 0)) (af gI (af gI ao))))) (gT 4 (aq (gN 3) (aq (gN 4) (aq (gN 5) (aq (gN 6) aK)))))) (ax (aA (au pick (af (aa 0) (af (aG b8 (af (fC (.int 1)) (af (fC (.int 2)) (af (fC (.int 3)) (af (fC (.int 3)) (af (fC (.int 4)) (af (fC (.int 5)) ao))))))) ao))) (gN 7)) (ax (cI (gy (af (au take (af (aa 0) (af (aj aM (aa 2) (fC (.int 1))) ao))) ao)) (gN 8) (qu take pick val)) (aQ (aa 3))))
def wV (pick:Fn):FS:=aQ (au pick (af (aa 0) (af (aG b8 (af (fC (.int 1)) (af (fC (.int 1)) (af (fC (.int 2)) (af (fC (.int 3)) (af (fC (.int 0)) (af (aG aD ao) (af (aG aD (af (fC (.int 1)) (af (fC (.int 2)) ao))) (af (uY qH (fC (.int 5))) ao))))))))) ao)))
structure Row where
 pt:Int
 k:Int
 h:Int
 dd:D
 b:Int
 e:Option Int
def Row.ls (r:Row):List D:=[.int r.h,r.dd,.int r.b,eD r.e]
def Row.d (r:Row):D:=.tup [.int r.pt,.int r.k,.tup r.ls]
def vals:List D:=[.int 1,.int 1,.int 2,.int 3,.int 0,.tup [],.tup [.int 1,.int 2],.int (-5)]
def dQ (p:Int)(dd:D):Prop:=dd = .tup [.str "look"] \/ ∃q v,dd = .tup [.str "put",.int q,v]/\0<=q/\q<p/\v∈vals
theorem jC {v:D}(h:v∈vals):v = .int 1\/v = .int 2\/v = .int 3\/v = .int 0\/v = .tup []\/v = .tup [.int 1,.int 2]\/v = .int (-5):=by
 simpa [vals] using h
theorem dQ.told {p dd}(h:dQ p dd):oN p dd=true:=by
 rcases h with rfl | ⟨q,v,rfl,h0,h1,hv⟩
 . rfl
 . have:isVal 3 v=true:=by rcases jC hv with rfl | rfl | rfl | rfl | rfl | rfl | rfl<;>decide
   simp [oN,within,this];omega
theorem dQ.nf {p dd}(h:dQ p dd):nf dd=true:=by
 rcases h with rfl | ⟨q,v,rfl,h0,h1,hv⟩
 . rfl
 . rcases jC hv with rfl | rfl | rfl | rfl | rfl | rfl | rfl<;>rfl
theorem dQ.flat {p dd}(h:dQ p dd):L3.flat dd=true/\dep dd<=3:=by
 rcases h with rfl | ⟨q,v,rfl,h0,h1,hv⟩
 . simp [L3.flat,aS,dep,bR]
 . rcases jC hv with rfl | rfl | rfl | rfl | rfl | rfl | rfl<;>simp [L3.flat,aS,dep,bR]
theorem dQ.bp {p dd}(h:dQ p dd)(n:Nat):L3.bp n dd=true:=by
 rcases h with rfl | ⟨q,v,rfl,h0,h1,hv⟩
 . simp [L3.bp,aT]
 . rcases jC hv with rfl | rfl | rfl | rfl | rfl | rfl | rfl<;>simp [L3.bp,aT]
structure jR (p:Int)(r:Row):Prop where
 h0:0<=r.h
 h9:r.h<=9
 dd:dQ p r.dd
 b0:0<=r.b
 eb:∀x,r.e=some x->r.b<x
 pa:4*r.b<r.pt
 pb:∀x,r.e=some x->r.pt<4*x
def After (r s:Row):Prop:=r.k<s.k/\r.b<=s.b/\(r.h=s.h->∃x,r.e=some x/\x<=s.b)
structure jE (p:Int)(i:Nat)(bg:Int)(rws:List Row)(op en:List D):Prop where
 g:∀r∈rws,jR p r
 kk:∀r∈rws,0<=r.k/\r.k<i
 bb:∀r∈rws,r.b<=bg
 pw:rws.Pairwise After
 len:rws.length<=i
 io:eE op
 ie:eE en
 lo:op.length<=2*i
 le:en.length<=2*i
 ev:∀j d,aV en (.int j)=some d->∃x,d = .int x
 opn:∀r∈rws,r.e=none->(aV op (.int r.h)).isSome=true
 cl:∀r∈rws,∀x,r.e=some x->∃y,aV en (.int r.h)=some (.int y)/\x<=y
 bg0:0<=bg
 bg5:bg<=5*i
theorem jE.skip {p i bg bg' rws op en}(h:jE p i bg rws op en)(h1:bg<=bg')(h2:bg'<=bg+5):jE p (i+1) bg' rws op en:=by
 have:=h.len;have:=h.lo;have:=h.le;have:=h.bg0;have:=h.bg5
 exact⟨h.g,fun r hr=>⟨(h.kk r hr).1,by have:=(h.kk r hr).2;omega⟩,fun r hr=>Int.le_trans (h.bb r hr) h1,h.pw,by omega,h.io,h.ie,by omega,by omega,h.ev,h.opn,h.cl,by omega,by omega⟩
def vG (en:List D)(j:Int):Int:=match(aV en (.int j)).getD (.int 0) with
 | .int y=>y
 | _=>0
theorem jE.en {p i bg rws op en}(h:jE p i bg rws op en)(j:Int):(aV en (.int j)).getD (.int 0) = .int (vG en j):=by
 unfold vG
 cases e:aV en (.int j) with
 | none=>rfl
 | some d=>obtain⟨x,rfl⟩:=h.ev j d e;rfl
theorem jE.step {p i bg bg' rws op en}(h:jE p i bg rws op en)(h1:bg<=bg')(h2:bg'<=bg+5){one E pt:Int}{dd:D}{op':List D}(o0:0<=one)(o9:one<=9)(ho:aV op (.int one)=none)(hy:vG en one<=bg')(hE:bg' < E)(hpa:4*bg' < pt)(hpb:pt<4*E)(hd:dQ p dd)(hop:op'=op\/op'=bD op (.int one) (.bl true)) :
   jE p (i+1) bg' (rws ++ [⟨pt,i,one,dd,bg',if(aV op' (.int one)).isSome then none else some E⟩]) op' (bD en (.int one) (.int E)):=by
 have hl:=h.len;have hlo:=h.lo;have hle:=h.le;have hb0:=h.bg0;have hb5:=h.bg5
 have mono:∀j,(aV op (.int j)).isSome=true->(aV op' (.int j)).isSome=true:=fun j hj=>by
   rcases hop with rfl | rfl
   . exact hj
   . rw [h.io.get];split
     . rfl
     . exact hj
 have old:∀r∈rws,r.h=one->∃x y,r.e=some x/\aV en (.int one)=some (.int y)/\x<=y/\y<=bg':=fun r hr e=>by
   cases he:r.e with
   | none =>
     have:=h.opn r hr he
     rw [e,ho] at this
     cases this
   | some x =>
     obtain⟨y,y1,y2⟩:=h.cl r hr x he
     rw [e] at y1
     refine⟨x,y,rfl,y1,y2,?_⟩
     simpa [vG,y1] using hy
 refine⟨fun r hr=>?_,fun r hr=>?_,fun r hr=>?_,?_,by simp;omega,?_,h.ie.put _ _,?_,?_,fun j d e=>?_,fun r hr e=>?_,fun r hr x e=>?_,by omega,by omega⟩
 . rcases List.mem_append.mp hr with hr | hr
   . exact h.g r hr
   . simp at hr
     subst hr
     exact⟨o0,o9,hd,by show 0<=bg';omega,fun x e=>by
       dsimp only at e
       split at e
       . cases e
       . cases e;exact hE,hpa,fun x e=>by
       dsimp only at e
       split at e
       . cases e
       . cases e;exact hpb⟩
 . rcases List.mem_append.mp hr with hr | hr
   . have:=h.kk r hr;exact⟨this.1,by omega⟩
   . simp at hr
     subst hr
     exact⟨by show(0:Int)<=(i:Int);omega,by show(i:Int)<((i+1:Nat):Int);omega⟩
 . rcases List.mem_append.mp hr with hr | hr
   . exact Int.le_trans (h.bb r hr) h1
   . simp at hr
     subst hr
     exact Int.le_refl _
 . rw [List.pairwise_append]
   refine⟨h.pw,by simp,fun r hr s hs=>?_⟩
   simp at hs
   subst hs
   refine⟨(h.kk r hr).2,Int.le_trans (h.bb r hr) h1,fun e=>?_⟩
   obtain⟨x,y,e1,_,e3,e4⟩:=old r hr e
   exact⟨x,e1,by show x<=bg';omega⟩
 . rcases hop with rfl | rfl
   . exact h.io
   . exact h.io.put _ _
 . rcases hop with rfl | rfl
   . omega
   . have:=h.io.len one (.bl true);omega
 . have:=h.ie.len one (.int E);omega
 . rw [h.ie.get] at e
   split at e
   . cases e;exact⟨_,rfl⟩
   . exact h.ev j d e
 . rcases List.mem_append.mp hr with hr | hr
   . exact mono _ (h.opn r hr e)
   . simp at hr
     subst hr
     dsimp only at e ⊢
     split at e
     . assumption
     . cases e
 . rw [h.ie.get]
   rcases List.mem_append.mp hr with hr | hr
   . split
     . rename_i e1
       obtain⟨x',y,e1,_,e3,e4⟩:=old r hr e1.symm
       rw [e] at e1
       cases e1
       exact⟨E,rfl,by omega⟩
     . exact h.cl r hr x e
   . simp at hr
     subst hr
     dsimp only at e ⊢
     split at e
     . cases e
     . cases e
       simp
def eO (f:Fn):Prop:=∀(n:Nat) (g:G) (B:Int),B<2 ^ 40->Hd g n B->∃d g',f [.ref n] g=some (d,g')/\d∈vals/\Hd g' n (B+1)/\Fr n g g'
theorem Bx {p:Fn}(hp:eH p):eO (aJ false 1 1 (wV p)):=fun n g B hB h=>by
 obtain⟨d,g',e,hd,h1,l1⟩:=hp n vals g B hB (by simp [vals]) (by simp [vals]) h
 refine⟨d,g',dE (σ':=[some (.ref n)]) rfl ?_ l1.1,hd,h1,l1⟩
 unfold vals at e
 simp [wV,e]
theorem eO.w {f:Fn}(h:eO f){n:Nat}{g:G}{B:Int}{Q:D×G->Prop}(hB:B<2 ^ 40)(hh:Hd g n B)(q:∀d g',d∈vals->Hd g' n (B+1)->Fr n g g'->Q (d,g')):wp (f [.ref n] g) Q:=by
 obtain⟨d,g',e,r0,h1,l1⟩:=h n g B hB hh
 exact⟨_,e,q d g' r0 h1 l1⟩
theorem cE.a0 {g gg:G}{n:Nat}{B:Int}{x:List D}{cs:List (List D)}(m:cE g gg n B (x::cs)):gg[g.length]? = some x:=m.at_ 0 (by simp)
theorem cE.a1 {g gg:G}{n:Nat}{B:Int}{x y:List D}{cs:List (List D)}(m:cE g gg n B (x::y::cs)):gg[g.length+1]? = some y:=m.at_ 1 (by simp)
theorem cE.a2 {g gg:G}{n:Nat}{B:Int}{x y z:List D}{cs:List (List D)}(m:cE g gg n B (x::y::z::cs)):gg[g.length+2]? = some z:=m.at_ 2 (by simp)
set_option maxHeartbeats 4000000 in
theorem xq {take val:Fn}(ht:dS take)(hv:eO val){n:Nat}{g gg:G}{B p most bg hands k one pt E:Int}{o9 o12:Option D}{rows op en:List D}{Q:F×Sg×G->Prop}(hB:B+10<2 ^ 40)(hp:0<p)(hp2:p<=1000)(m:cE g gg n B [rows,op,en])(he:aV en (.int one)=some (.int E))(hs:iu op=true)(hz:rows.length+1<=1000)
   (q:∀dd op' g',dQ p dd->(op'=op\/op'=bD op (.int one) (.bl true))->cE g g' n (B+4) [rows ++ [Row.d ⟨pt,k,one,dd,bg,if(aV op' (.int one)).isSome then none else some E⟩],op',en]->Q (.nx,[some (.ref n),some (.int p),some (.int most),some (.ref g.length),some (.int bg),some (.aI (g.length+1)),some (.aI (g.length+2)),some (.int hands),some (.int k),o9,some (.int one),some (.int pt),some dd],g')) :
   wp (qB take val [some (.ref n),some (.int p),some (.int most),some (.ref g.length),some (.int bg),some (.aI (g.length+1)),some (.aI (g.length+2)),some (.int hands),some (.int k),o9,some (.int one),some (.int pt),o12] gg) Q:=by
 have hz':aF (rows.length+1)=true:=aL hz
 have fin:∀(dd:D) (op':List D) (g':G) (B':Int),B'<=B+4->dQ p dd->(op'=op\/op'=bD op (.int one) (.bl true))->cE g g' n B' [rows,op',en]->wp (xn [some (.ref n),some (.int p),some (.int most),some (.ref g.length),some (.int bg),some (.aI (g.length+1)),some (.aI (g.length+2)),some (.int hands),some (.int k),o9,some (.int one),some (.int pt),some dd] g') Q:=by
   intro dd op' g' B' hb hd ho m'
   have a0:=m'.a0
   have a1:=m'.a1
   have a2:=m'.a2
   have z:=q dd op' _ hd ho ((m'.mono hb).put 0 (rows ++ [Row.d ⟨pt,k,one,dd,bg,if(aV op' (.int one)).isSome then none else some E⟩]))
   unfold xn
   cases hh:(aV op' (.int one)).isSome with
   | true =>
     simp [hh] at z
     simp [a0,a1,a2,hh,he,hz']
     exact z
   | false =>
     simp [hh] at z
     simp [a0,a1,a2,hh,he,hz']
     exact z
 have mid:∀(dd:D) (g':G) (B':Int),B'<=B+3->dQ p dd->cE g g' n B' [rows,op,en]->wp (yq take [some (.ref n),some (.int p),some (.int most),some (.ref g.length),some (.int bg),some (.aI (g.length+1)),some (.aI (g.length+2)),some (.int hands),some (.int k),o9,some (.int one),some (.int pt),some dd] g') Q:=by
   intro dd g' B' hb hd m'
   unfold yq
   simp
   refine ht.w (by omega) (by decide) (by decide) m'.hd fun r g2 r0 r1 h2 f2=>?_
   have m2:=m'.step h2 f2
   have a1:=m2.a1
   by_cases hr:r=0
   . simp [hr,a1,hs]
     exact fin dd _ _ (B'+1) (by omega) hd (.inr rfl) (m2.put 1 _)
   . simp [hr]
     exact fin dd _ _ (B'+1) (by omega) hd (.inl rfl) m2
 unfold qB
 simp
 refine ht.w (by omega) (by decide) (by decide) m.hd fun r g2 r0 r1 h2 f2=>?_
 have m2:=m.step h2 f2
 by_cases hr:r<3
 . simp [hr]
   refine ht.w (by omega) (by omega) (by omega) m2.hd fun c g3 c0 c1 h3 f3=>?_
   have m3:=m2.step h3 f3
   simp
   refine hv.w (by omega) m3.hd fun v g4 v0 h4 f4=>?_
   have m4:=m3.step h4 f4
   simp
   exact mid _ _ _ (by omega) (.inr ⟨c,v,rfl,c0,c1,v0⟩) m4
 . simp [hr]
   exact mid _ _ _ (by omega) (.inl rfl) m2
set_option maxHeartbeats 4000000 in
theorem Ag {take pick val:Fn}(ht:dS take)(hp:eH pick)(hv:eO val){n:Nat}{g gg:G}{B p most bg hands k:Int}{o10 o11 o12:Option D}{rows op en xs:List D}{Q:F×Sg×G->Prop}(hB:B+20<2 ^ 40)(p0:0<p)(hp2:p<=1000)(bg0:0<=bg)(bg1:bg<=1000)(m:cE g gg n B [rows,op,en])(hs:iu op=true)(hs2:iu en=true)(hie:eE en)(hz:rows.length+1<=1000)(hx:xs ≠ [])(hxl:xs.length<=100)(hxi:∀d∈xs,∃j:Int,d = .int j)
  (q:∀one pt E dd op' g',.int one∈xs->bg<E->4*bg<pt->pt<4*E->dQ p dd->(op'=op\/op'=bD op (.int one) (.bl true))->cE g g' n (B+8) [rows ++ [Row.d ⟨pt,k,one,dd,bg,if(aV op' (.int one)).isSome then none else some E⟩],op',bD en (.int one) (.int E)]->Q (.nx,[some (.ref n),some (.int p),some (.int most),some (.ref g.length),some (.int bg),some (.aI (g.length+1)),some (.aI (g.length+2)),some (.int hands),some (.int k),some (.lst xs),some (.int one),some (.int pt),some dd],g')) :
  wp (tL take pick val [some (.ref n),some (.int p),some (.int most),some (.ref g.length),some (.int bg),some (.aI (g.length+1)),some (.aI (g.length+2)),some (.int hands),some (.int k),some (.lst xs),o10,o11,o12] gg) Q:=by
 unfold tL
 simp
 refine hp.w (by omega) hx (by omega) m.hd fun d g2 hd h2 f2=>?_
 obtain⟨one,rfl⟩:=hxi d hd
 have m2:=m.step h2 f2
 simp
 refine hp.w (by omega) (by simp) (by simp) m2.hd fun c g3 hc h3 f3=>?_
 have m3:=m2.step h3 f3
 obtain⟨c,rfl,c0,c9⟩:∃i:Int,c = .int i/\0<=i/\i<=9:=by
  simp only [List.mem_cons,List.mem_nil_iff,or_false] at hc
  rcases hc with rfl | rfl | rfl | rfl | rfl<;>exact⟨_,rfl,by decide,by decide⟩
 have a2:=m3.a2
 have m4:=m3.put 2 (bD en (.int one) (.int (bg+1+c)))
 have b2:=m4.a2
 have gt:aV (bD en (.int one) (.int (bg+1+c))) (.int one)=some (.int (bg+1+c)):=by rw [hie.get];simp
 have k1:cG 4 bg=true:=eV (by decide) (by decide)
 have k2:cG 4 (bg+1+c-bg)=true:=eV (by decide) (by decide)
 simp [a2,hs2,b2,gt,k1,k2]
 refine ht.w (by omega) (by omega) (by omega) m4.hd fun r g5 r0 r1 h5 f5=>?_
 have m5:=m4.step h5 f5
 simp
 refine xq ht hv (by omega) p0 hp2 m5 gt hs hz fun dd op' g' hd' ho m'=>?_
 exact q one _ _ dd op' g' hd (by omega) (by omega) (by omega) hd' ho (m'.mono (by omega))
def may (op en:List D)(bg:Int):D->Bool
 | .int j=>!(aV op (.int j)).isSome&&decide (vG en j<=bg)
 | _=>false
theorem rL {n:Nat}{d:D}(h:d∈dA 0 n):∃j:Nat,j<n/\d = .int j:=by
 obtain⟨i,hi⟩:=List.mem_iff_getElem?.mp h
 obtain⟨h1,h2⟩:=i4 hi
 exact⟨i,h1,h2⟩
set_option maxHeartbeats 4000000 in
theorem yL {take pick val:Fn}(ht:dS take)(hp:eH pick)(hv:eO val){n i:Nat}{g gg:G}{B p most bg hands:Int}{o9 o10 o11 o12:Option D}{rws:List Row}{op en:List D}{Q:F×Sg×G->Prop}(hB:B+30<2 ^ 40)(p0:0<p)(hp2:p<=1000)(hh1:1<=hands)(hh:hands<=10)(hi:i<=100)(m:cE g gg n B [rws.map Row.d,op,en])(I:jE p i bg rws op en)
  (q:∀bg' rws' op' en' g' o9 o10 o11 o12,cE g g' n (B+10) [rws'.map Row.d,op',en']->jE p (i+1) bg' rws' op' en'->Q (.nx,[some (.ref n),some (.int p),some (.int most),some (.ref g.length),some (.int bg'),some (.aI (g.length+1)),some (.aI (g.length+2)),some (.int hands),some (.int i),o9,o10,o11,o12],g')) :
  wp (qu take pick val [some (.ref n),some (.int p),some (.int most),some (.ref g.length),some (.int bg),some (.aI (g.length+1)),some (.aI (g.length+2)),some (.int hands),some (.int i),o9,o10,o11,o12] gg) Q:=by
 unfold qu
 simp
 refine hp.w (by omega) (by simp) (by simp) m.hd fun c g2 hc h2 f2=>?_
 have m2:=m.step h2 f2
 obtain⟨c,rfl,c0,c5⟩:∃i:Int,c = .int i/\0<=i/\i<=5:=by
  simp only [List.mem_cons,List.mem_nil_iff,or_false] at hc
  rcases hc with rfl | rfl | rfl | rfl | rfl<;>exact⟨_,rfl,by decide,by decide⟩
 have hbg0:=I.bg0
 have hbg5:=I.bg5
 have hlen:=I.len
 have hlo:=I.lo
 have hle:=I.le
 have a1:=m2.a1
 have a2:=m2.a2
 simp
 refine lF ?_
 simp
 refine⟨by omega,by omega,?_⟩
 have hz:aF (dA 0 hands.toNat).length=true:=aL (by rw [iV];omega)
 have cm:=pe (t:=gN 1) (c:=cL (az (aj cW (aa 1) (aa 4))) (az (aj oLe (bX fV gw (aa 3) (af (aa 1) (af (fC (.int 0)) ao))) (aa 2)))) (e:=aa 1) (cB:=may op en (bg+c)) (h:=fun d=>d) (fun σ=>∃o,σ = [none,o,some (.int (bg+c)),some (.aI (g.length+2)),some (.aI (g.length+1))]) (dA 0 hands.toNat) [none,none,some (.int (bg+c)),some (.aI (g.length+2)),some (.aI (g.length+1))] g2 ⟨_,rfl⟩ (by
  rintro d hm σ ⟨o,rfl⟩
  obtain⟨j,hj,rfl⟩:=rL hm
  refine⟨[none,some (.int j),some (.int (bg+c)),some (.aI (g.length+2)),some (.aI (g.length+1))],by simp,?_,fun _=>by simp,⟨_,rfl⟩⟩
  have e:=I.en j
  cases ho:(aV op (.int j)).isSome with
  | true=>simp [a1,a2,ho,may]
  | false=>simp [a1,a2,ho,may,e])
 have sb:∀a b c0 c1 c2 c3 c4 c5 c6 c7 c8 c9 c10:Option D,bu [none,none,some 4,some 6,some 5] [c0,c1,c2,c3,a,b,c4,c5,c6,c7,c8,c9,c10] = [none,none,a,c4,b]:=fun _ _ _ _ _ _ _ _ _ _ _ _ _=>rfl
 have hxs:∀d∈(dA 0 hands.toNat).filter (may op en (bg+c)),(∃j:Nat,(j:Int)<hands/\d = .int j)/\may op en (bg+c) d=true:=fun d hd=>by
  obtain⟨h1,h2⟩:=List.mem_filter.mp hd
  obtain⟨j,h3,rfl⟩:=rL h1
  exact⟨⟨j,by omega,rfl⟩,h2⟩
 have hll:((dA 0 hands.toNat).filter (may op en (bg+c))).length<=10:=by
  have:=List.length_filter_le (may op en (bg+c)) (dA 0 hands.toNat)
  rw [iV] at this
  omega
 rw [List.map_id'] at cm
 generalize (dA 0 hands.toNat).filter (may op en (bg+c))=xs at *
 have hxi:∀d∈xs,∃j:Int,d = .int j:=fun d hd=>let⟨⟨j,_,e⟩,_⟩:=hxs d hd;⟨_,e⟩
 obtain⟨fl,dl⟩:=i_ hxi
 have fl1:flat (.lst xs)=true:=by simpa [flat] using fl
 have dl1:dep (.lst xs)=1:=by simp [dep,dl]
 have el:aB (.lst xs) (.lst [])=xs.isEmpty:=by cases xs<;>simp [aB,bY]
 have fn:flat (.lst [])=true:=by simp [flat,aS]
 simp [sb,cm,hz,fl1,dl1,el,fn]
 cases xs with
 | nil =>
  simp
  exact q _ _ _ _ _ _ _ _ _ (m2.mono (by omega)) (I.skip (by omega) (by omega))
 | cons x xs =>
  simp
  refine Ag ht hp hv (by omega) p0 hp2 (by omega) (by omega) m2 (lL (by omega)) (lL (by omega)) I.ie (by simp;omega) (by simp) (by omega) hxi fun one pt E dd op' g' h1 h3 h3a h3b h4 h5 m'=>?_
  obtain⟨⟨j,j1,j2⟩,hm⟩:=hxs _ h1
  cases j2
  simp only [may,Bool.and_eq_true,Bool.not_eq_true',decide_eq_true_eq] at hm
  have ho:aV op (.int j)=none:=by
   cases e:aV op (.int (j:Int)) with
   | none=>rfl
   | some d=>rw [e] at hm;cases hm.1
  refine q _ (rws ++ [⟨pt,i,j,dd,bg+c,if(aV op' (.int j)).isSome then none else some E⟩]) _ _ _ _ _ _ _ ?_ (I.step (by omega) (by omega) (by omega) (by omega) ho hm.2 h3 h3a h3b h4 h5)
  rw [List.map_append]
  exact m'.mono (by omega)
structure Rows (p:Int)(most:Nat)(rws:List Row):Prop where
 g:∀r∈rws,jR p r
 pw:rws.Pairwise After
 len:rws.length<=most
 kk:∀r∈rws,0<=r.k/\r.k<1000
theorem Row.bp {p:Int}{r:Row}(h:jR p r)(n:Nat):L3.bp n r.d=true:=by
 have:=h.dd.bp n
 obtain⟨pt,k,hh,dd,b,e⟩:=r
 cases e<;>simp [Row.d,Row.ls,L3.bp,aT,eD,this]
def FZ (n:Nat)(p:Int)(most:Nat)(c B:Int)(g:G)(R i:Nat)(σ:Sg)(gg:G):Prop:=i<=R->∃bg rws op en o8 o9 o10 o11 o12,σ = [some (.ref n),some (.int p),some (.int most),some (.ref g.length),some (.int bg),some (.aI (g.length+1)),some (.aI (g.length+2)),some (.int c),o8,o9,o10,o11,o12]/\cE g gg n (B+2+10*i) [rws.map Row.d,op,en]/\jE p i bg rws op en
set_option maxHeartbeats 4000000 in
theorem DM {take pick val:Fn}(ht:dS take)(hp:eH pick)(hv:eO val){n:Nat}{g:G}{B p:Int}{most:Nat}{Q:D×G->Prop}(hB:B+2000<2 ^ 40)(p0:0<p)(hp2:p<=1000)(hm:most<=50)(hd:Hd g n B)(hc:Clean g)
   (q:∀rws g',Rows p most rws->Hd g' n (B+1000)->Fr n g g'->Q (.lst (rws.map Row.d),g')) :
   wp (aJ false 13 3 (pR take pick val) [.ref n,.int p,.int most] g) Q:=by
 refine j7 rfl ?_
 unfold pR
 simp
 have m0:cE g (g ++ [[],[],[]]) n B [[],[],[]]:=by simpa using (((cE.none hd).push []).push []).push []
 refine hp.w (B:=B) (by omega) (by simp) (by simp) m0.hd fun c g2 hc' h2 f2=>?_
 have m2:=m0.step h2 f2
 obtain⟨c,rfl,c0,c10⟩:∃i:Int,c = .int i/\1<=i/\i<=10:=by
   simp only [List.mem_cons,List.mem_nil_iff,or_false] at hc'
   rcases hc' with rfl | rfl | rfl | rfl | rfl | rfl<;>exact⟨_,rfl,by decide,by decide⟩
 refine lF ?_
 simp
 refine ht.w (by omega) (by omega) (by omega) m2.hd fun r g3 r0 r1 h3 f3=>?_
 have m3:=m2.step h3 f3
 simp
 refine⟨by omega,by omega,?_⟩
 refine iM (fun i σ gg=>FZ n p most c B g r.toNat i σ gg) _ 0 _ _ (fun _=>⟨0,[],[],[],none,none,none,none,none,rfl,m3.mono (by omega),⟨by simp,by simp,by simp,.nil,by simp,.nil,.nil,by simp,by simp,(fun j d e=>by cases e),by simp,by simp,by omega,by omega⟩⟩) ?_ ?_
 . intro j d σ gg hdj hI
   obtain⟨hj,rfl⟩:=i4 hdj
   obtain⟨bg,rws,op,en,o8,o9,o10,o11,o12,rfl,m,I⟩:=hI (by omega)
   rw [Nat.zero_add] at *
   simp
   refine yL ht hp hv (by omega) p0 hp2 c0 c10 (by omega) m I fun bg' rws' op' en' g' o9 o10 o11 o12 m' I'=>?_
   exact fun _=>⟨_,_,_,_,_,_,_,_,_,rfl,m'.mono (by omega),I'⟩
 . intro σ gg hI
   rw [iV] at hI
   obtain⟨bg,rws,op,en,o8,o9,o10,o11,o12,rfl,m,I⟩:=hI (by omega)
   have a0:=m.a0
   have hl:=I.len
   simp [a0]
   obtain⟨f1,f2⟩:=m.fin
   have cl:=m.clean hc
   exact⟨cg fun x hx=>by
    obtain⟨r,hr,rfl⟩:=List.mem_map.mp hx
    exact Row.bp (I.g r hr) _,fun x hx=>List.all_eq_true.mp cl x hx,q rws _ ⟨I.g,I.pw,by omega,fun r hr=>by have:=I.kk r hr;omega⟩ (f1.mono (by omega)) f2⟩
def y9:FS:=bH (az (aj oEq (aj aw (aa 8) (fC (.int 0))) (fC (.str "put")))) (aA (aj aM (aj aM (cQ (aa 2) cP (cf (aj aw (aa 8) (fC (.int 1))))) (aG aD (af (aj aw (aa 8) (fC (.int 2))) ao))) (cQ (aa 2) (cf (aj aM (aj aw (aa 8) (fC (.int 1))) (fC (.int 1)))) cP)) (gN 2)) aR
def zx:FS:=bH (ib (az (aj oEq (aj aw (aa 8) (fC (.int 0))) (fC (.str "put")))) (az (aj bO (aa 10) (fC .non)))) (cc (bX isRef bG (aa 4) (af (aa 6) ao))) aR
def zj:FS:=bH (cL (az (aj oEq (aj aw (aa 8) (fC (.int 0))) (fC (.str "look")))) (az (aj bO (aa 10) (fC .non)))) (aA (aa 2) (dB (aa 3) (aa 6))) aR
def jX:FS:=ax y9 (ax zx zj)
def Hm:FG:=gT 3 (aq (gN 5) (aq (gN 6) (aq (gT 4 (aq (gN 7) (aq (gN 8) (aq (gN 9) (aq (gN 10) aK))))) aK)))
def nums:FE:=bU bB (b_ (aa 1)) [none,none,none,none] (gT 3 (aq (gN 1) (aq (gN 2) (aq (gN 3) aK)))) bC (aa 2)
def yH:FE:=bU bB (b_ (aa 1)) [none,none,none,none,some 3] (gT 3 (aq (gN 1) (aq (gN 2) (aq (gN 3) aK)))) bC (aj aM (aa 3) (aG aD (af (bX fV gw (aa 4) (af (aa 2) ao)) ao)))
def yc:FE:=da bB (gq (aa 4)) [none,none,some 11] (gN 1) bC (bX fW e_ (aa 2) (af (aa 1) ao))
def qF:FS:=ax (aA (aG aD (af (aj bM (aG aD (af (fC (.int 0)) ao)) (aa 0)) (af gI (af (aG mkRef ao) ao)))) (gT 3 (aq (gN 2) (aq (gN 3) (aq (gN 4) aK))))) (ax (cI (b_ (au cK (af (aa 1) ao))) Hm jX) (ax (aA nums (gN 11)) (aQ (aG aD (af (au de (af yH ao)) (af (au de (af yc ao)) ao))))))
theorem la:∀(n:Nat) (d:D),isVal n d=true->nf d=true /\ ∀m,bp m d=true
 | 0,d,h=>by
  unfold isVal lG within at h
  split at h
  . exact⟨rfl,fun _=>rfl⟩
  . cases h
 | n+1,d,h=>by
  cases d with
  | tup xs =>
    simp only [isVal,Bool.and_eq_true,List.all_eq_true] at h
    have:∀ys:List D,(∀y∈ys,isVal n y=true)->qa ys=true /\ ∀m,aT m ys=true:=fun ys=>by
     induction ys with
     | nil=>intro _;exact⟨rfl,fun _=>rfl⟩
     | cons y ys ih =>
      intro hy
      obtain⟨h1,h2⟩:=la n y (hy y (by simp))
      obtain⟨h3,h4⟩:=ih fun z hz=>hy z (by simp [hz])
      exact⟨by simp [qa,h1,h3],fun m=>by simp [aT,h2 m,h4 m]⟩
    obtain⟨h1,h2⟩:=this xs h.2
    exact⟨by simpa [nf] using h1,fun m=>by simpa [bp] using h2 m⟩
  | _=>first | exact⟨rfl,fun _=>rfl⟩ | (simp [isVal,lG,within] at h)
theorem Cz {xs:List D}(h:∀x∈xs,nf x=true):qa xs=true:=by
 induction xs with
 | nil=>rfl
 | cons x xs ih=>simp [qa,h x (by simp),ih fun y hy=>h y (by simp [hy])]
theorem ml {p:Int}{d:D}(h:jz p d=true):nf d=true /\ ∀m,bp m d=true:=by
 unfold jz at h
 split at h
 . rename_i xs
   simp only [Bool.and_eq_true,List.all_eq_true] at h
   exact⟨by simpa [nf] using Cz fun x hx=>(la 3 x (h.2 x hx)).1,fun m=>by simpa [bp] using cg fun x hx=>(la 3 x (h.2 x hx)).2 m⟩
 . cases h
def St (p:Int)(st:List D):Prop:=(st.length:Int)=p /\ ∀x∈st,isVal 3 x=true
theorem St.B {p st}(h:St p st):jz p (.tup st)=true:=by
 simp only [jz,Bool.and_eq_true,decide_eq_true_eq,List.all_eq_true]
 exact h
theorem nt {v:D}(h:v∈vals):isVal 3 v=true:=by rcases jC h with rfl | rfl | rfl | rfl | rfl | rfl | rfl<;>decide
structure TI (p:Int)(done:List Row)(st tl:List D)(ks:List Int):Prop where
 st:St p st
 it:eE tl
 tlen:tl.length<=2*done.length
 t1:∀j d,aV tl (.int j)=some d->jz p d=true /\ ∃r∈done,r.k=j/\ck r.dd=true/\r.e.isSome=true
 t2:∀r∈done,ck r.dd=true->r.e.isSome=true->(aV tl (.int r.k)).isSome=true
 klen:ks.length<=done.length
 kin:∀k∈ks,∃r∈done,r.k=k
def cj (st:List D):D->List D
 | .tup [.str _,.int c,v]=>st.take c.toNat++v::st.drop (c.toNat+1)
 | _=>st
theorem D3 {g:G}{a b:List D}:(g ++ [a,b])[g.length]? = some a:=by simp
theorem B9 {g:G}{a b:List D}:(g ++ [a,b])[g.length+1]? = some b:=by simp
theorem Ht {g:G}{a b c:List D}:(g ++ [a,b]).set g.length c=g ++ [c,b]:=by simp
theorem GW {g:G}{a b c:List D}:(g ++ [a,b]).set (g.length+1) c=g ++ [a,c]:=by
 rw [List.set_append_right _ _ (by omega)];simp
theorem lZ {rws:List Row}(h:rws.Pairwise After):∀r∈rws,∀s∈rws,r.k=s.k->r=s:=by
 induction rws with
 | nil=>intro r hr;simp at hr
 | cons x xs ih =>
  rw [List.pairwise_cons] at h
  intro r hr s hs e
  rcases List.mem_cons.mp hr with h1 | h1<;>rcases List.mem_cons.mp hs with h2 | h2
  . rw [h1,h2]
  . subst h1;have:=(h.1 s h2).1;omega
  . subst h2;have:=(h.1 r h1).1;omega
  . exact ih h.2 r h1 s h2 e
set_option maxHeartbeats 4000000 in
theorem xV {p:Int}{g:G}{done:List Row}{st tl rows:List D}{ks:List Int}{r:Row}{o11:Option D}{Q:F×Sg×G->Prop}(hp:p<=100)(I:TI p done st tl ks)(hr:jR p r)(hl:done.length<=100)
   (q:∀st' tl' ks',TI p (done ++ [r]) st' tl' ks'->Q (.nx,[some (.int p),some (.lst rows),some (.tup st'),some (.aI g.length),some (.ref (g.length+1)),some (.int r.pt),some (.int r.k),some (.int r.h),some r.dd,some (.int r.b),some (eD r.e),o11],g ++ [tl',ks'.map D.int])) :
   wp (jX [some (.int p),some (.lst rows),some (.tup st),some (.aI g.length),some (.ref (g.length+1)),some (.int r.pt),some (.int r.k),some (.int r.h),some r.dd,some (.int r.b),some (eD r.e),o11] (g ++ [tl,ks.map D.int])) Q:=by
 have kl:=I.klen
 have tlen:=I.tlen
 have hz:aF (ks.length+1)=true:=aL (by omega)
 have hs:iu tl=true:=lL (by omega)
 have nJ:¬(Str.ofString "put" = Str.ofString "look"):=by decide
 have r6:¬(Str.ofString "look" = Str.ofString "put"):=by decide
 have ka:∀k∈ks ++ [r.k],∃s∈done ++ [r],s.k=k:=fun k hk=>by
   rcases List.mem_append.mp hk with hk | hk
   . obtain⟨s,h1,h2⟩:=I.kin k hk
     exact⟨s,by simp [h1],h2⟩
   . simp at hk
     exact⟨r,by simp,hk.symm⟩
 have kb:∀k∈ks,∃s∈done ++ [r],s.k=k:=fun k hk=>by
   obtain⟨s,h1,h2⟩:=I.kin k hk
   exact⟨s,by simp [h1],h2⟩
 have same:∀st' ks',St p st'->ks'.length<=done.length+1->(∀k∈ks',∃s∈done ++ [r],s.k=k)->¬(ck r.dd=true/\r.e.isSome=true)->TI p (done ++ [r]) st' tl ks':=fun st' ks' h1 h2 h3 h4=>by
   refine⟨h1,I.it,by simp;omega,fun j d e=>?_,fun s hs1 e1 e2=>?_,by simpa using h2,h3⟩
   . obtain⟨z1,s,z2,z3⟩:=I.t1 j d e
     exact⟨z1,s,by simp [z2],z3⟩
   . rcases List.mem_append.mp hs1 with hs1 | hs1
     . exact I.t2 s hs1 e1 e2
     . simp at hs1
       subst hs1
       exact absurd ⟨e1,e2⟩ h4
 rcases hr.dd with hd | ⟨c,v,hd,c0,c1,hv⟩
 . have lk:ck r.dd=true:=by rw [hd];rfl
   cases he:r.e with
   | none =>
     have z:=q st tl ks (same st ks I.st (by omega) kb (by simp [he]))
     rw [he,hd] at z
     simp [jX,y9,zx,zj,hd,cR,eq_str,flat,dep,r6,eD,isLit,cx]
     exact z
   | some x =>
     have z:=q st (bD tl (.int r.k) (.tup st)) (ks ++ [r.k]) ⟨I.st,I.it.put _ _,by have:=I.it.len r.k (.tup st);simp;omega,fun j d e=>by
         rw [I.it.get] at e
         split at e
         . rename_i e1
           cases e
           exact⟨I.st.B,r,by simp,e1,lk,by simp [he]⟩
         . obtain⟨z1,s,z2,z3⟩:=I.t1 j d e
           exact⟨z1,s,by simp [z2],z3⟩,fun s hs1 e1 e2=>by
         rw [I.it.get]
         split
         . rfl
         . rename_i e3
           rcases List.mem_append.mp hs1 with hs1 | hs1
           . exact I.t2 s hs1 e1 e2
           . simp at hs1
             subst hs1
             exact absurd rfl e3,by simp;omega,ka⟩
     rw [he,hd] at z
     simp [jX,y9,zx,zj,hd,cR,eq_str,flat,dep,r6,eD,isLit,cx,D3,B9,Ht,GW,hz,hs]
     simpa [eD] using z
 . have lk:ck r.dd=false:=by rw [hd];simp [ck,nJ]
   have hl2:=I.st.1
   obtain⟨cn,rfl⟩:∃cn:Nat,c=cn:=⟨c.toNat,by omega⟩
   have hcl:cn<st.length:=by omega
   have s1:eu (.tup st) none (some (cn:Int)) (g ++ [tl,ks.map D.int])=some (.tup (st.take cn),g ++ [tl,ks.map D.int]):=eM (mv hcl)
   have s2:eu (.tup st) (some ((cn:Int)+1)) none (g ++ [tl,ks.map D.int])=some (.tup (st.drop (cn+1)),g ++ [tl,ks.map D.int]):=eM (iQ hcl)
   have z:=q (st.take cn++v::st.drop (cn+1)) tl (ks ++ [r.k]) (same _ _ ⟨by simp;omega,fun x hx=>by
     rcases List.mem_append.mp hx with hx | hx
     . exact I.st.2 x (List.mem_of_mem_take hx)
     . rcases List.mem_cons.mp hx with rfl | hx
       . exact nt hv
       . exact I.st.2 x (List.mem_of_mem_drop hx)⟩ (by simp;omega) ka (by simp [lk]))
   rw [hd] at z
   have y1:aF (min cn st.length+1)=true:=aL (by omega)
   have y2:aF (min cn st.length+1+(st.length-(cn+1)))=true:=aL (by omega)
   simp [jX,y9,zx,zj,hd,cR,dD,jZ,eq_str,flat,dep,nJ,s1,s2,y1,y2,D3,B9,Ht,GW,hz,hs]
   simpa using z
theorem Row.flat {p:Int}{r:Row}(h:jR p r):L3.flat r.d=true/\dep r.d<=6:=by
 obtain⟨h1,h2⟩:=h.dd.flat
 have he:L3.flat (eD r.e)=true/\dep (eD r.e)=0:=by cases r.e<;>exact⟨rfl,rfl⟩
 constructor
 . simp [Row.d,Row.ls,L3.flat,aS,h1,he.1]
 . simp [Row.d,Row.ls,dep,bR,he.2];omega
theorem Row.aS {p:Int}{rws:List Row}(h:∀r∈rws,jR p r):L3.aS (rws.map Row.d)=true/\bR (rws.map Row.d)<=6:=by
 induction rws with
 | nil=>exact⟨rfl,by simp [bR]⟩
 | cons r rs ih =>
  obtain⟨h1,h2⟩:=Row.flat (h r (by simp))
  obtain⟨h3,h4⟩:=ih fun s hs=>h s (by simp [hs])
  exact⟨by simp [L3.aS,h1,h3],by simp [bR];omega⟩
theorem Row.lt {p:Int}{r s:Row}(hr:jR p r)(h:r.k=s.k->r=s):(ltN r.d s.d).isSome=true:=by
 by_cases e1:r.pt=s.pt
 . by_cases e2:r.k=s.k
   . have:=h e2
     subst this
     have fl:=(Row.flat hr).1
     have fl2:L3.flat (.tup r.ls)=true:=by
      simp [Row.d,L3.flat,L3.aS] at fl
      simpa [L3.flat] using fl
     have:=ic _ fl2
     simp [Row.d,ltN,fN,eJ,this]
   . simp [Row.d,ltN,fN,eJ,e1,e2]
 . simp [Row.d,ltN,fN,eJ,e1]
theorem xb {p:Int}{most:Nat}{rws:List Row}(h:Rows p most rws)(hm:most<=50):zz (rws.map Row.d)=true:=by
 have hl:=h.len
 obtain⟨h1,h2⟩:=Row.aS h.g
 simp only [zz,Bool.and_eq_true,Bool.or_eq_true,decide_eq_true_eq,List.all_eq_true]
 refine⟨⟨⟨⟨by simp;omega,h1⟩,by omega⟩,.inr (.inl fun x hx=>?_)⟩,fun x hx y hy=>?_⟩
 . obtain⟨r,_,rfl⟩:=List.mem_map.mp hx
   rfl
 . obtain⟨r,hr,rfl⟩:=List.mem_map.mp hx
   obtain⟨s,hs,rfl⟩:=List.mem_map.mp hy
   exact Row.lt (h.g r hr) (lZ h.pw r hr s hs)
theorem pZ {α β:Type}{f:α->β}:∀(rs:List α) (l:List β),l.Perm (rs.map f)->∃ss:List α,ss.Perm rs/\l=ss.map f
 | [],l,h=>⟨[],.refl _,by simpa using h⟩
 | r::rs,l,h=>by
  have hm:f r∈l:=h.mem_iff.mpr (by simp)
  obtain⟨a,b,rfl⟩:=List.append_of_mem hm
  have h2:(a++b).Perm (rs.map f):=by
   have:=(List.perm_middle (a:=f r) (l₁:=a) (l₂:=b)).symm.trans h
   rw [List.map_cons] at this
   exact List.Perm.cons_inv this
  obtain⟨ss,h3,h4⟩:=pZ rs _ h2
  obtain⟨s1,s2,rfl,h5,h6⟩:=List.map_eq_append_iff.mp h4.symm
  exact⟨s1++r::s2,List.perm_middle.trans (h3.cons r),by simp [h5,h6]⟩
structure Told (p:Int)(rws:List Row)(dF:Row->D):Prop where
 t:∀r∈rws,if ck r.dd&&r.e.isSome then jz p (dF r)=true else dF r = .non
def kZ (dF:Row->D)(r:Row):D:=.tup (r.ls ++ [dF r])
def Lo (p:Int)(rows:List D)(g:G)(ss:List Row)(i:Nat)(σ:Sg)(gg:G):Prop:=i<=ss.length->∃st tl ks o5 o6 o7 o8 o9 o10 o11,σ = [some (.int p),some (.lst rows),some (.tup st),some (.aI g.length),some (.ref (g.length+1)),o5,o6,o7,o8,o9,o10,o11]/\gg=g ++ [tl,ks.map D.int]/\TI p (ss.take i) st tl ks
theorem A6 {rws:List Row}{σ:Sg}{gg:G}(h:σ[1]? = some (some (.lst (rws.map Row.d))))(hl:rws.length<=100):nums σ gg=some (.lst (rws.map fun r=>.int r.k),gg):=by
 have hz:aF (rws.map Row.d).length=true:=aL (by simp;omega)
 have c:=gE (t:=gT 3 (aq (gN 1) (aq (gN 2) (aq (gN 3) aK)))) (c:=bC) (e:=aa 2) (h:=fun d=>match d with | .tup [_,k,_]=>k | _=>.non) (fun σ=>∃a b c,σ = [none,a,b,c]) (rws.map Row.d) [none,none,none,none] gg ⟨_,_,_,rfl⟩ (by
  rintro d hm σ ⟨a,b,c,rfl⟩
  obtain⟨r,hr,rfl⟩:=List.mem_map.mp hm
  exact⟨[none,some (.int r.pt),some (.int r.k),some (.tup r.ls)],by simp [Row.d],by simp,by simp [Row.d],⟨_,_,_,rfl⟩⟩)
 have sb:bu [none,none,none,none] σ = [none,none,none,none]:=rfl
 rw [List.map_map] at c
 have e2:((fun d:D=>match d with | .tup [_,k,_]=>k | _=>D.non) ∘ Row.d)=fun r=>D.int r.k:=rfl
 rw [e2] at c
 simp [nums,h,sb,c]
 simpa using hz
def gL (tl:List D)(r:Row):D:=(aV tl (.int r.k)).getD .non
theorem AY {rws:List Row}{σ:Sg}{gg:G}{n:Nat}{tl:List D}(h:σ[1]? = some (some (.lst (rws.map Row.d))))(h3:σ[3]? = some (some (.aI n)))(ha:gg[n]? = some tl)(hl:rws.length<=100):yH σ gg=some (.lst (rws.map (kZ (gL tl))),gg):=by
 have hz:aF (rws.map Row.d).length=true:=aL (by simp;omega)
 have z5:aF 5=true:=aL (by omega)
 have c:=gE (t:=gT 3 (aq (gN 1) (aq (gN 2) (aq (gN 3) aK)))) (c:=bC) (e:=aj aM (aa 3) (aG aD (af (bX fV gw (aa 4) (af (aa 2) ao)) ao))) (h:=fun d=>match d with | .tup [_,k,.tup ls]=>.tup (ls ++ [(aV tl k).getD .non]) | _=>.non) (fun σ=>∃a b c,σ = [none,a,b,c,some (.aI n)]) (rws.map Row.d) [none,none,none,none,some (.aI n)] gg ⟨_,_,_,rfl⟩ (by
  rintro d hm σ ⟨a,b,c,rfl⟩
  obtain⟨r,hr,rfl⟩:=List.mem_map.mp hm
  exact⟨[none,some (.int r.pt),some (.int r.k),some (.tup r.ls),some (.aI n)],by simp [Row.d],by simp,by simp [Row.d,ha,Row.ls],⟨_,_,_,rfl⟩⟩)
 have sb:bu [none,none,none,none,some 3] σ = [none,none,none,none,some (.aI n)]:=by simp [bu,h3]
 rw [List.map_map] at c
 have e2:((fun d:D=>match d with | .tup [_,k,.tup ls]=>.tup (ls ++ [(aV tl k).getD .non]) | _=>.non) ∘ Row.d)=kZ (gL tl):=rfl
 rw [e2] at c
 simp [yH,h,sb,c]
 simpa using hz
theorem Al {rws:List Row}{σ:Sg}{gg:G}{n:Nat}{ks:List Int}(h4:σ[4]? = some (some (.ref n)))(h11:σ[11]? = some (some (.lst (rws.map fun r=>.int r.k))))(ha:gg[n]? = some (ks.map D.int))(hk:∀k∈ks,∃r∈rws,r.k=k)(hl:ks.length<=100) :
  ∃ixs:List Int,yc σ gg=some (.lst (ixs.map D.int),gg)/\ixs.length=ks.length:=by
 have hz:aF ks.length=true:=aL (by omega)
 have hf:(rws.map fun r=>D.int r.k).all dW=true:=List.all_eq_true.mpr fun x hx=>by
  obtain⟨r,_,rfl⟩:=List.mem_map.mp hx
  rfl
 have c:=gE (t:=gN 1) (c:=bC) (e:=bX fW e_ (aa 2) (af (aa 1) ao)) (h:=fun d=>.int (((lE (rws.map fun r=>D.int r.k) d).getD 0:Nat):Int)) (fun σ=>∃a,σ = [none,a,some (.lst (rws.map fun r=>.int r.k))]) (ks.map D.int) [none,none,some (.lst (rws.map fun r=>.int r.k))] gg ⟨_,rfl⟩ (by
  rintro d hm σ ⟨a,rfl⟩
  obtain⟨k,hk1,rfl⟩:=List.mem_map.mp hm
  refine⟨[none,some (.int k),some (.lst (rws.map fun r=>.int r.k))],by simp,by simp,?_,⟨_,rfl⟩⟩
  obtain⟨r,hr,e⟩:=hk k hk1
  obtain⟨j,hj⟩:∃j,lE (rws.map fun r=>D.int r.k) (.int k)=some j:=by
   unfold lE
   have:(((rws.map fun r=>D.int r.k).findIdx? fun y=>aB y (.int k))).isSome=true:=by
     rw [List.findIdx?_isSome,List.any_eq_true]
     exact⟨.int r.k,List.mem_map.mpr ⟨r,hr,rfl⟩,by simp [eJ,e]⟩
   exact Option.isSome_iff_exists.mp this
  have fk:dW (.int k)=true:=rfl
  simp [e_,hf,hj,fk]
  simpa using hf)
 have c2:=jA (t:=gN 1) (c:=bC) (e:=bX fW e_ (aa 2) (af (aa 1) ao)) ha (ks.map D.int).length [none,none,some (.lst (rws.map fun r=>.int r.k))] _ (Nat.le_refl _) (fun σ d q h=>BE h) (fun σ q h=>by cases h;rfl) (fun σ q h=>by
   rw [rM] at h
   obtain⟨q1,h1,h⟩:=bind_some h
   have e1:q1.2=gg:=by
     rw [fS] at h1
     split at h1
     . cases h1;rfl
     . cases h1
   split at h
   . obtain⟨q2,h2,h⟩:=bind_some h
     have e2:q2.2=gg:=by
       rw [gX] at h2
       obtain⟨q3,h3,h2⟩:=bind_some h2
       rw [fS] at h3
       split at h3
       . cases h3;cases h2;exact e1
       . cases h3
     unfold e_ at h
     split at h
     . split at h
       . obtain⟨j,_,h⟩:=Option.map_eq_some_iff.mp h
         cases h;exact e2
       . cases h
     . cases h
   . cases h) (by rw [Nat.sub_self,List.drop_zero];exact c)
 have sb:bu [none,none,some 11] σ = [none,none,some (.lst (rws.map fun r=>.int r.k))]:=by simp [bu,h11]
 refine⟨ks.map fun k=>(((lE (rws.map fun r=>D.int r.k) (.int k)).getD 0:Nat):Int),?_,by simp⟩
 rw [List.length_map] at c2
 simp [yc,h4,ha,sb,c2,hz]
set_option maxHeartbeats 4000000 in
theorem Dr {p:Int}{most:Nat}{rws:List Row}{g:G}{Q:D×G->Prop}(p0:0<p)(hp:p<=100)(hm:most<=50)(R:Rows p most rws)(hc:Clean g)
   (q:∀dF ixs,Told p rws dF->Q (.tup [.tup (rws.map (kZ dF)),.tup ixs],g)) :
   wp (aJ false 12 2 qF [.int p,.lst (rws.map Row.d)] g) Q:=by
 have hlen:=R.len
 refine fL rfl ?_
 unfold qF
 have mz:bM (.tup [.int 0]) (.int p) g=some (.tup (List.replicate p.toNat (D.int 0)),g):=by
   rw [t_ (by omega) (by omega) (by simp)]
   simp
 have so:=xb R hm
 obtain⟨ss,hs1,hs2⟩:=pZ rws _ (tQ (rws.map Row.d))
 have sx:cK [.lst (rws.map Row.d)]=j3 [.lst (rws.map Row.d)]:=rfl
 simp [mz,sx,j3,dP,so]
 rw [hs2]
 have h0:St p (List.replicate p.toNat (D.int 0)):=⟨by simp;omega,fun x hx=>by
   obtain⟨_,rfl⟩:=List.mem_replicate.mp hx
   decide⟩
 have sl:ss.length=rws.length:=hs1.length_eq
 refine iM (Lo p (rws.map Row.d) g ss) _ 0 _ _ (fun _=>⟨_,[],[],none,none,none,none,none,none,none,rfl,rfl,⟨h0,.nil,by simp,(fun j d e=>by cases e),by simp,by simp,by simp⟩⟩) ?_ ?_
 . intro j d σ gg hdj hI
   rw [Nat.zero_add] at *
   rw [List.getElem?_map] at hdj
   obtain⟨r,hr,rfl⟩:=Option.map_eq_some_iff.mp hdj
   have hjl:j<ss.length:=(List.getElem?_eq_some_iff.mp hr).1
   obtain⟨st,tl,ks,o5,o6,o7,o8,o9,o10,o11,rfl,rfl,I⟩:=hI (by omega)
   have tk:ss.take (j+1)=ss.take j ++ [r]:=by rw [List.take_succ,hr];rfl
   have hrm:r∈rws:=hs1.mem_iff.mp (List.mem_of_getElem? hr)
   unfold Hm Row.d Row.ls
   simp
   refine xV hp I (R.g r hrm) (by simp;omega) fun st' tl' ks' I'=>?_
   exact fun _=>⟨_,_,_,_,_,_,_,_,_,_,rfl,rfl,by rw [tk];exact I'⟩
 . intro σ gg hI
   rw [List.length_map,Nat.zero_add] at hI
   obtain⟨st,tl,ks,o5,o6,o7,o8,o9,o10,o11,rfl,rfl,I⟩:=hI (by omega)
   rw [List.take_length] at I
   have hl1:rws.length<=100:=by omega
   have kl:=I.klen
   have e1:∀gg,nums [some (.int p),some (.lst (rws.map Row.d)),some (.tup st),some (.aI g.length),some (.ref (g.length+1)),o5,o6,o7,o8,o9,o10,o11] gg=_:=fun gg=>A6 (rws:=rws) rfl hl1
   have e2:=AY (rws:=rws) (σ:=[some (.int p),some (.lst (rws.map Row.d)),some (.tup st),some (.aI g.length),some (.ref (g.length+1)),o5,o6,o7,o8,o9,o10,some (.lst (rws.map fun r=>.int r.k))]) (gg:=g ++ [tl,ks.map D.int]) (n:=g.length) rfl rfl D3 hl1
   obtain⟨ixs,e3,e4⟩:=Al (rws:=rws) (σ:=[some (.int p),some (.lst (rws.map Row.d)),some (.tup st),some (.aI g.length),some (.ref (g.length+1)),o5,o6,o7,o8,o9,o10,some (.lst (rws.map fun r=>.int r.k))]) (gg:=g ++ [tl,ks.map D.int]) (n:=g.length+1) rfl rfl B9 (fun k hk=>by
     obtain⟨r,h1,h2⟩:=I.kin k hk
     exact⟨r,hs1.mem_iff.mp h1,h2⟩) (by omega)
   have y1:aF rws.length=true:=aL (by omega)
   have y2:aF ixs.length=true:=aL (by omega)
   have tn:∀r∈rws,∀m,bp m (gL tl r)=true:=fun r hr m=>by
     unfold gL
     cases e:aV tl (.int r.k) with
     | none=>rfl
     | some d=>exact(ml (I.t1 _ _ e).1).2 m
   simp [e1,e2,e3,y1,y2]
   have tk:(g ++ [tl,ks.map D.int]).take g.length=g:=by simp
   refine⟨?_,fun x hx=>hc x hx _,q (gL tl) _ ⟨fun r hr=>?_⟩⟩
   . have a1:aT g.length (rws.map (kZ (gL tl)))=true:=cg fun x hx=>by
       obtain⟨r,hr,rfl⟩:=List.mem_map.mp hx
       have b1:=(R.g r hr).dd.bp g.length
       have b2:=tn r hr g.length
       have b3:bp g.length (eD r.e)=true:=by cases r.e<;>rfl
       simp [kZ,Row.ls,bp,aT,b1,b2,b3]
     have a2:=yk (n:=g.length) ixs
     simp [bp,aT,a1,a2]
   . split
     . rename_i hc1
       rw [Bool.and_eq_true] at hc1
       obtain⟨d,e⟩:=Option.isSome_iff_exists.mp (I.t2 r (hs1.mem_iff.mpr hr) hc1.1 hc1.2)
       have:gL tl r=d:=by simp [gL,e]
       rw [this]
       exact(I.t1 _ _ e).1
     . rename_i hc1
       cases e:aV tl (.int r.k) with
       | none=>simp [gL,e]
       | some d =>
        obtain⟨_,s,s1,s2,s3,s4⟩:=I.t1 _ _ e
        have:=lZ R.pw s (hs1.mem_iff.mp s1) r hr s2
        subst this
        exact absurd (by rw [s3,s4];rfl) hc1
def rt (x:Row×D):D:=.tup [.int x.1.h,x.1.dd,.int x.1.b,eD x.1.e,x.2]
structure bx (p:Int)(x:Row×D):Prop where
 r:jR p x.1
 t:if ck x.1.dd&&x.1.e.isSome then jz p x.2=true else x.2 = .non
def K4 (x y:Row×D):Prop:=x.1.b<=y.1.b/\(x.1.h=y.1.h->∃e,x.1.e=some e/\e<=y.1.b)
theorem bx.row {p:Int}{x:Row×D}(h:bx p x):mO p (rt x)=true:=by
 have h1:=h.r.dd.told
 have h2:=h.r.h0
 have h3:=h.r.h9
 have h4:=h.r.b0
 have h5:=h.t
 have tm:jU (.int x.1.b) (eD x.1.e)=true:=by
   have:=h.r.eb
   cases e:x.1.e with
   | none=>simp [jU,eD,h4]
   | some y=>have:=this y e;simp [jU,eD,h4,this]
 have nn:fY (eD x.1.e) = !x.1.e.isSome:=by cases x.1.e<;>rfl
 simp only [rt,mO,within,h1,tm,nn,Bool.not_not,h2,h3,decide_true,Bool.and_self,Bool.true_and]
 split
 . rename_i z;rw [if_pos z] at h5;exact h5
 . rename_i z;rw [if_neg z] at h5;rw [h5];rfl
theorem bx.nf {p:Int}{x:Row×D}(h:bx p x):Pd.nf (rt x)=true:=by
 have h1:=h.r.dd.nf
 have h5:=h.t
 have h2:Pd.nf (eD x.1.e)=true:=by cases x.1.e<;>rfl
 have h3:Pd.nf x.2=true:=by
  split at h5
  . exact(ml h5).1
  . rw [h5];rfl
 simp [rt,Pd.nf,qa,h1,h2,h3]
theorem Bi {p:Int}{rws:List Row}{dF:Row->D}{most:Nat}(R:Rows p most rws)(T:Told p rws dF):rws.map (kZ dF)=(rws.map fun r=>(r,dF r)).map rt/\(∀x∈rws.map fun r=>(r,dF r),bx p x)/\(rws.map fun r=>(r,dF r)).Pairwise K4:=by
 refine⟨by rw [List.map_map];rfl,fun x hx=>?_,?_⟩
 . obtain⟨r,hr,rfl⟩:=List.mem_map.mp hx
   exact⟨R.g r hr,T.t r hr⟩
 . rw [List.pairwise_map]
   exact R.pw.imp fun h=>⟨h.2.1,h.2.2⟩
theorem fD {α:Type}{f h:α->D}{t:FG}{c:FT}{e:FE}(I:Sg->Prop):∀(xs:List α) (σ:Sg) (g:G),I σ->(∀x∈xs,∀σ,I σ->∃σ1,t (f x) σ g=some (σ1,g)/\c σ1 g=some (true,g)/\e σ1 g=some (h x,g)/\I σ1)->bW t c e (xs.map f) σ g=some (xs.map h,g)
 | [],_,_,_,_=>rfl
 | x::xs,σ,g,hi,hh=>by
  obtain⟨σ1,h1,h2,h3,h4⟩:=hh x List.mem_cons_self σ hi
  have ih:=fD I xs σ1 g h4 fun x hx=>hh x (List.mem_cons_of_mem _ hx)
  simp only [List.map_cons,bW,h1,h2,h3,Option.bind_some,if_true,ih]
end Pd
namespace Od
open PySem L3 L2 RI Pd
def sf:FS:=aQ (aj bM (aG aD (af (fC (.int 0)) ao)) (aa 0))
def qh:FS:=aQ (qX (aj oEq (aj aw (aj aw (aa 0) (fC (.int 1))) (fC (.int 0))) (fC (.str "put"))) (aj oEq (aj aw (aa 0) (fC (.int 4))) (aa 1)))
def kW:FS:=ax (aA (aj aw (aa 0) (fC (.int 1))) (gN 2)) (ax (bH (az (aj oEq (aj aw (aa 2) (fC (.int 0))) (fC (.str "look")))) (aQ (aa 1)) aR) (aQ (aj aM (aj aM (cQ (aa 1) cP (cf (aj aw (aa 2) (fC (.int 1))))) (aG aD (af (aj aw (aa 2) (fC (.int 2))) ao))) (cQ (aa 1) (cf (aj aM (aj aw (aa 2) (fC (.int 1))) (fC (.int 1)))) cP))))
def si:FS:=aQ (au jO (af (bU bB (cY (aa 0)) [none,none,none,some 1] (gT 2 (aq (gN 1) (aq (gN 2) aK))) (az (aj bO (aj aw (aa 2) (fC (.int 3))) (fC .non))) (aj et (aa 1) (aa 3))) ao))
abbrev Rt:=Row×D
def zs (p:Int):List D:=List.replicate p.toNat (.int 0)
def x0:Rt:=⟨⟨0,0,0,.non,0,none⟩,.non⟩
def av (xs:List Rt)(k:Nat):Rt:=xs.getD k x0
def kD (ks:List Nat):List D:=ks.map fun(k:Nat)=>D.int k
theorem lH:∀(n:Nat) (d:D),isVal n d=true->flat d=true/\dep d<=n
 | 0,d,h=>by
  unfold isVal lG within at h
  split at h
  . exact⟨rfl,Nat.le_refl _⟩
  . cases h
 | n+1,d,h=>by
  cases d with
  | tup xs =>
    simp only [isVal,Bool.and_eq_true,List.all_eq_true] at h
    have:∀ys:List D,(∀y∈ys,isVal n y=true)->aS ys=true/\bR ys<=n:=fun ys=>by
     induction ys with
     | nil=>intro _;exact⟨rfl,by simp [bR]⟩
     | cons y ys ih =>
      intro hy
      obtain⟨h1,h2⟩:=lH n y (hy y (by simp))
      obtain⟨h3,h4⟩:=ih fun z hz=>hy z (by simp [hz])
      exact⟨by simp [aS,h1,h3],by simp [bR];omega⟩
    obtain⟨h1,h2⟩:=this xs h.2
    exact⟨by simpa [flat] using h1,by simp [dep];omega⟩
  | _=>first | exact⟨rfl,by simp [dep]⟩ | (simp [isVal,lG,within] at h)
theorem lh {n:Nat}{xs:List D}(h:∀x∈xs,flat x=true/\dep x<=n):aS xs=true/\bR xs<=n:=by
 induction xs with
 | nil=>exact⟨rfl,by simp [bR]⟩
 | cons y ys ih =>
  obtain⟨h1,h2⟩:=h y (by simp)
  obtain⟨h3,h4⟩:=ih fun z hz=>h z (by simp [hz])
  exact⟨by simp [aS,h1,h3],by simp [bR];omega⟩
theorem St.flat {p:Int}{st:List D}(h:St p st):L3.flat (.tup st)=true/\dep (.tup st)<=4:=by
 obtain⟨h1,h2⟩:=lh fun x hx=>lH 3 x (h.2 x hx)
 exact⟨by simpa [L3.flat] using h1,by simp [dep];omega⟩
theorem yi {p:Int}{d:D}(h:jz p d=true):L3.flat d=true/\dep d<=4:=by
 unfold jz at h
 split at h
 . simp only [Bool.and_eq_true,decide_eq_true_eq,List.all_eq_true] at h
   exact St.flat (p:=p) h
 . cases h
theorem bx.oP {p:Int}{x:Rt}(h:bx p x):L3.flat x.2=true/\dep x.2<=4:=by
 have:=h.t
 split at this
 . exact yi this
 . rw [this];exact⟨rfl,by simp [dep]⟩
theorem St.zs {p:Int}(h:0<=p):St p (zs p):=⟨by simp [Od.zs];omega,fun x hx=>by
 obtain⟨_,rfl⟩:=List.mem_replicate.mp hx
 decide⟩
theorem St.put {p:Int}{st:List D}{dd:D}(h:St p st)(hd:dQ p dd):St p (cj st dd):=by
 rcases hd with rfl | ⟨c,v,rfl,c0,c1,hv⟩
 . exact h
 . have hl:=h.1
   refine⟨by simp [cj];omega,fun x hx=>?_⟩
   simp only [cj] at hx
   rcases List.mem_append.mp hx with hx | hx
   . exact h.2 x (List.mem_of_mem_take hx)
   . rcases List.mem_cons.mp hx with rfl | hx
     . exact nt hv
     . exact h.2 x (List.mem_of_mem_drop hx)
def mQ (p:Int)(f:Fn):Prop:=∀g,f [.int p] g=some (.tup (zs p),g)
theorem yO {p:Int}(h0:0<=p)(h1:p<=100):mQ p (aJ false 1 1 sf):=fun g=>by
 refine dE (σ':=[some (.int p)]) rfl ?_ rfl
 have mz:bM (.tup [.int 0]) (.int p) g=some (.tup (zs p),g):=by
  rw [t_ (by omega) (by omega) (by simp)]
  simp [zs]
 simp [sf,mz]
def fH (x:Rt)(st:List D):Bool:=!(ck x.1.dd)||aB x.2 (.tup st)
theorem nJ:¬(Str.ofString "put" = Str.ofString "look"):=by decide
theorem r6:¬(Str.ofString "look" = Str.ofString "put"):=by decide
def jD (p:Int)(f:Fn):Prop:=∀x st g,bx p x->St p st->f [rt x,.tup st] g=some (.bl (fH x st),g)
theorem Aq {p:Int}:jD p (aJ false 2 2 qh):=fun x st g hx hs=>by
 refine dE (σ':=[some (rt x),some (.tup st)]) rfl ?_ rfl
 obtain⟨f1,f2⟩:=bx.oP hx
 obtain⟨f3,f4⟩:=St.flat hs
 have f2':dep x.2<=60:=by omega
 have oe:oEq x.2 (.tup st) g=some (.bl (aB x.2 (.tup st)),g):=by unfold oEq;simp [f1,f3,f2']
 unfold fH
 rcases hx.r.dd with hd | ⟨c,v,hd,c0,c1,hv⟩
 . simp [qh,rt,hd,cR,dD,nG,eq_str,flat,dep,r6,ck,oe,f1,f3,f2']
 . simp [qh,rt,hd,cR,dD,nG,eq_str,flat,dep,nJ,ck]
def iX (p:Int)(f:Fn):Prop:=∀x st g,bx p x->St p st->f [rt x,.tup st] g=some (.tup (cj st x.1.dd),g)
theorem vQ {p:Int}(hp:p<=100):iX p (aJ false 3 2 kW):=fun x st g hx hs=>by
 refine dE (σ':=[some (rt x),some (.tup st),some x.1.dd]) rfl ?_ rfl
 have hl2:=hs.1
 rcases hx.r.dd with hd | ⟨c,v,hd,c0,c1,hv⟩
 . simp [kW,rt,hd,cR,dD,eq_str,flat,dep,cj]
 . obtain⟨cn,rfl⟩:∃cn:Nat,c=cn:=⟨c.toNat,by omega⟩
   have hcl:cn<st.length:=by omega
   have s1:eu (.tup st) none (some (cn:Int)) g=some (.tup (st.take cn),g):=eM (mv hcl)
   have s2:eu (.tup st) (some ((cn:Int)+1)) none g=some (.tup (st.drop (cn+1)),g):=eM (iQ hcl)
   have y1:aF (min cn st.length+1)=true:=aL (by omega)
   have y2:aF (min cn st.length+1+(st.length-(cn+1)))=true:=aL (by omega)
   simp [kW,rt,hd,cR,dD,jZ,eq_str,flat,dep,nJ,cj,s1,s2,y1,y2]
def fB:List D->List Rt->Bool
 | _,[]=>true
 | st,x::xs=>fH x st&&fB (cj st x.1.dd) xs
theorem mW (ks:List Nat):aS (kD ks)=true/\bR (kD ks)=0:=i_ fun d hd=>by
 obtain⟨k,_,rfl⟩:=List.mem_map.mp hd
 exact⟨_,rfl⟩
theorem F1 (i:Nat)(ks:List Nat):((kD ks).any fun y=>aB y (.int i))=ks.contains i:=by
 induction ks with
 | nil=>rfl
 | cons k ks ih =>
  simp only [kD,List.map_cons,List.any_cons,List.contains_cons] at ih ⊢
  rw [ih,eJ]
  have:(decide ((k:Int)=(i:Int)))=(i == k):=by
   by_cases h:k=i
   . subst h;simp
   . have h':¬i=k:=fun e=>h e.symm
     have h2:¬(k:Int)=(i:Int):=by omega
     simp [h2,h']
  rw [this]
theorem mI (i:Nat)(ks:List Nat)(g:G):kJ (.int i) (.tup (kD ks)) g=some (ks.contains i):=by
 obtain⟨h1,h2⟩:=mW ks
 show wX (.int i) (kD ks)=_
 unfold wX
 rw [F1]
 simp [flat,h1,h2]
def gu (xs:List Rt)(ks:List Nat):Bool:=xs.zipIdx.all fun y=>y.1.1.e.isNone||ks.contains y.2
theorem kz (xs:List Rt):b5 (xs.map rt)=xs.zipIdx.map fun y=>.tup [.int (y.2:Nat),rt y.1]:=by
 simp [b5,List.zipIdx_map,Function.comp_def]
def sL (p:Int)(f:Fn):Prop:=∀xs ks g,(∀x∈xs,bx p x)->xs.length<=100->f [.tup (xs.map rt),.tup (kD ks)] g=some (.bl (gu xs ks),g)
theorem eX {α:Type}{f h:α->D}{t:FG}{c:FT}{e:FE}{cB:α->Bool}(I:Sg->Prop):∀(xs:List α) (σ:Sg) (g:G),I σ->(∀x∈xs,∀σ,I σ->∃σ1,t (f x) σ g=some (σ1,g)/\c σ1 g=some (cB x,g)/\(cB x=true->e σ1 g=some (h x,g))/\I σ1)->bW t c e (xs.map f) σ g=some ((xs.filter cB).map h,g)
 | [],_,_,_,_=>rfl
 | d::ds,σ,g,hi,hh=>by
  obtain⟨σ1,h1,h2,h3,h4⟩:=hh d List.mem_cons_self σ hi
  have ih:=eX I ds σ1 g h4 fun x hx=>hh x (List.mem_cons_of_mem _ hx)
  cases hc:cB d with
  | true =>
   rw [hc] at h2
   simp only [List.map_cons,bW,h1,h2,h3 hc,Option.bind_some,if_true,ih,List.filter_cons,hc]
  | false =>
   rw [hc] at h2
   simp only [List.map_cons,bW,h1,h2,Option.bind_some,Bool.false_eq_true,if_false,ih,List.filter_cons,hc]
theorem yx {p:Int}:sL p (aJ false 2 2 si):=fun xs ks g hx hl=>by
 refine dE (σ':=[some (.tup (xs.map rt)),some (.tup (kD ks))]) rfl ?_ rfl
 have hz:aF (b5 (xs.map rt)).length=true:=aL (by simp [b5];omega)
 have c1:=eX (f:=fun y:Rt×Nat=>.tup [.int (y.2:Nat),rt y.1]) (t:=gT 2 (aq (gN 1) (aq (gN 2) aK))) (c:=az (aj bO (aj aw (aa 2) (fC (.int 3))) (fC .non))) (e:=aj et (aa 1) (aa 3)) (cB:=fun y=>y.1.1.e.isSome) (h:=fun y=>D.bl (ks.contains y.2)) (fun σ=>∃a b,σ = [none,a,b,some (.tup (kD ks))]) xs.zipIdx [none,none,none,some (.tup (kD ks))] g ⟨_,_,rfl⟩ (by
  rintro⟨y,i⟩ hm σ ⟨a,b,rfl⟩
  refine⟨[none,some (.int i),some (rt y),some (.tup (kD ks))],by simp,?_,fun _=>by simp [mI],⟨_,_,rfl⟩⟩
  cases he:y.1.e<;>simp [rt,mL,he,eD,isLit,cx])
 rw [<- kz] at c1
 have sb:bu [none,none,none,some 1] [some (D.tup (xs.map rt)),some (D.tup (kD ks))] = [none,none,none,some (D.tup (kD ks))]:=rfl
 have e2:((xs.zipIdx.filter fun y=>y.1.1.e.isSome).map fun y=>ks.contains y.2).all id=gu xs ks:=by
  unfold gu
  rw [List.all_map,List.all_filter]
  congr 1
  funext y
  cases y.1.1.e<;>simp
 simp only [si]
 simp [sb,c1,hz,dX]
 rw [<- e2]
 simp [List.all_map,Function.comp_def]
def cX (x y:Rt):Bool:=Pd.mH (rt x) (rt y)
theorem vf (x y:Rt):cX x y=match x.1.e with | some e=>decide (e<=y.1.b) | none=>false:=by
 have e1:eI (rt x)=x.1.e:=by cases he:x.1.e<;>simp [rt,eI,he,eD]
 have e2:bI (rt y)=y.1.b:=rfl
 unfold cX Pd.mH
 rw [e1,e2]
 try (cases x.1.e<;>first | rfl | (exact decide_eq_decide.mpr Iff.rfl))
def eZ (xs:List Rt):List Nat->List Nat->Bool
 | _,[]=>true
 | seen,k::ks=>!(seen.any fun i=>cX (av xs k) (av xs i))&&eZ xs (seen ++ [k]) ks
theorem nq {xs:List Rt}{k:Nat}(h:k<xs.length):(xs.map rt)[k]? = some (rt (av xs k)):=by
 simp [av,h]
theorem cq {xs:List Rt}{k:Nat}(h:k<xs.length):av xs k∈xs:=by simp [av,h]
end Od
namespace Od
open PySem L3 L2 RI Pd PyProof.Rows
theorem mG:∀(ns σ:List Int),σ.Nodup->(ns.foldl step_dedup σ=σ++ns/\(σ++ns).Nodup)\/((ns.foldl step_dedup σ).length < σ.length+ns.length /\ ¬(σ++ns).Nodup)
 | [],σ,h=>.inl ⟨by simp,by simpa using h⟩
 | v::ns,σ,h=>by
  rw [List.foldl_cons]
  by_cases hv:v∈σ
  . have e:step_dedup σ v=σ:=by unfold step_dedup;rw [if_pos];rw [List.any_eq_true];exact⟨v,hv,by simp⟩
    rw [e]
    refine .inr ⟨?_,fun hn=>?_⟩
    . rcases mG ns σ h with h1 | h1
      . rw [h1.1];simp
      . simp;omega
    . rw [List.nodup_append] at hn
      exact hn.2.2 v hv v (by simp) rfl
  . have e:step_dedup σ v=σ ++ [v]:=by
      unfold step_dedup
      rw [if_neg]
      rw [List.any_eq_true]
      rintro⟨x,hx,e⟩
      have:=eq_of_beq e
      subst this
      exact hv hx
    have h2:(σ ++ [v]).Nodup:=by
      rw [List.nodup_append]
      exact⟨h,by simp,fun a ha b hb=>by simp at hb;subst hb;exact fun z=>hv (z ▸ ha)⟩
    have ih:=mG ns (σ ++ [v]) h2
    rw [e]
    simpa [Nat.add_assoc,Nat.add_comm 1] using ih
def toN:D->Nat
 | .int i=>i.toNat
 | _=>0
def sC (p:Int)(xs:List Rt)(ks:List Nat):Bool:=decide ks.Nodup&&(gu xs ks&&(eZ xs [] ks&&fB (zs p) (ks.map (av xs))))
theorem nK:∀{n:Nat} {ks:List Nat},ks.Nodup->(∀k∈ks,k<n)->ks.length<=n
 | 0,[],_,_=>Nat.le_refl _
 | 0,k::_,_,h=>absurd (h k (by simp)) (by omega)
 | n+1,ks,hn,h=>by
  have h1:=nK (n:=n) (hn.erase n) fun k hk=>by
   have h2:=(hn.mem_erase_iff).mp hk
   have:=h k h2.2
   omega
  rw [List.length_erase] at h1
  split at h1<;>omega
theorem qc (ks:List Nat):dk (kD ks)=some (ks.map fun(k:Nat)=>(k:Int)):=by
 induction ks with
 | nil=>rfl
 | cons k ks ih=>simp only [kD,List.map_cons] at ih ⊢;simp [dk,ih]
theorem AR (ks:List Nat):(ks.map fun(k:Nat)=>(k:Int)).Nodup ↔ ks.Nodup:=by
 rw [List.Nodup,List.Nodup,List.pairwise_map]
 constructor
 . exact fun h=>h.imp fun h e=>h (by rw [e])
 . exact fun h=>h.imp fun h e=>h (by omega)
def dM:List Int->List D
 | []=>[]
 | n::r=>.int n :: .bl true::dM r
theorem wx (ns:List Int):aO (dM ns)=ns.map D.int:=by
 induction ns with
 | nil=>rfl
 | cons n ns ih=>simp [dM,aO,ih]
theorem BF (ns:List Int):(dM ns).length=2*ns.length:=by
 induction ns with
 | nil=>rfl
 | cons n ns ih=>simp [dM,ih];omega
theorem yw (ns:List Int)(n:Int):bD (dM ns) (.int n) (.bl true)=dM (step_dedup ns n):=by
 induction ns with
 | nil=>rfl
 | cons k ns ih =>
  simp only [dM,bD,eJ]
  by_cases h:k=n
  . subst h
    have:step_dedup (k::ns) k=k::ns:=by unfold step_dedup;simp
    rw [this]
    simp [dM]
  . have:step_dedup (k::ns) n=k::step_dedup ns n:=by
     unfold step_dedup
     have h2:(k == n)=false:=by simp [h]
     simp only [List.any_cons,h2,Bool.false_or]
     split<;>simp
    rw [this,ih]
    simp [h,dM]
def sF (n:Int):D:=.tup [.int n,.bl true]
theorem D8 (ns:List Int):gK (ns.map sF)=some (ns.map fun n=>(.int n,.bl true)):=by
 induction ns with
 | nil=>rfl
 | cons n ns ih=>simp [gK,uB,sF] at ih ⊢;simp [ih]
theorem qP {g:G}:∀(ns σ:List Int),σ.length+ns.length<=400->L3.putAll g.length (ns.map fun n=>(.int n,.bl true)) (g ++ [dM σ])=some (g ++ [dM (ns.foldl step_dedup σ)])
 | [],σ,_=>rfl
 | n::ns,σ,h=>by
  have hl:(step_dedup σ n).length<=σ.length+1:=by unfold step_dedup;split<;>simp
  have ih:=qP (g:=g) ns (step_dedup σ n) (by simp at h;omega)
  have hs:iu (dM σ)=true:=lL (by rw [BF];simp at h;omega)
  simp only [List.map_cons,L3.putAll,List.foldl_cons]
  have:fE (.aI g.length) (.int n) (.bl true) (g ++ [dM σ])=some (g ++ [dM (step_dedup σ n)]):=by
   unfold fE
   simp [hs,yw,bf]
  rw [this]
  exact ih
theorem xc {g:G}(ns:List Int)(h:ns.length<=400):iY [.lst (ns.map sF)] g=some (.aI g.length,g ++ [dM (ns.foldl step_dedup [])]):=by
 unfold iY
 simp only [D8,Option.bind_some]
 rw [show g ++ [[]]=g ++ [dM []] from rfl,qP ns [] (by simpa using h)]
 rfl
theorem jK:∀a b:List Int,bY (a.map D.int) (b.map D.int)=decide (a=b)
 | [],[]=>by simp [bY]
 | [],_::_=>by simp [bY]
 | _::_,[]=>by simp [bY]
 | x::xs,y::ys=>by
  simp only [List.map_cons,bY,jK xs ys,eJ]
  by_cases h:x=y<;>by_cases h2:xs=ys<;>simp [h,h2]
theorem u7 (ns:List Int):decide (PySem.W.sortI ns=PySem.W.sortI (ns.foldl step_dedup []))=decide ns.Nodup:=by
 rcases mG ns [] List.nodup_nil with h | h
 . have h2:ns.Nodup:=by simpa using h.2
   rw [h.1]
   simp [h2]
 . have h1:¬ns.Nodup:=by simpa using h.2
   have h2:=h.1
   have h3:¬PySem.W.sortI ns=PySem.W.sortI (ns.foldl step_dedup []):=fun e=>by
    have e1:=(PySem.W.sortI_perm ns).length_eq
    have e2:=(PySem.W.sortI_perm (ns.foldl step_dedup [])).length_eq
    rw [e] at e1
    simp at h2
    omega
   simp [h1,h3]
theorem n_ (ds:List Int):dk (ds.map D.int)=some ds:=by
 induction ds with
 | nil=>rfl
 | cons d ds ih=>simp [dk,ih]
def xG:FT:=az (aj df (au cK (af (aa 2) ao)) (au cK (af (au iY (af (bU bB (b_ (aa 2)) [none,none] (gN 1) bC (aG aD (af (aa 1) (af (fC (.bl true)) ao)))) ao)) ao)))
theorem Am {σ:Sg}{g:G}{ks:List Nat}(h2:σ[2]? = some (some (.tup (kD ks))))(hl:ks.length<64):xG σ g=some (!decide ks.Nodup,g ++ [dM ((ks.map fun(k:Nat)=>(k:Int)).foldl step_dedup [])]):=by
 have hz:aF ks.length=true:=aL (by omega)
 have kl:(kD ks).length=ks.length:=by simp [kD]
 have c1:=fD (f:=fun(i:Nat)=>D.int i) (t:=gN 1) (c:=bC) (e:=aG aD (af (aa 1) (af (fC (.bl true)) ao))) (h:=fun(i:Nat)=>sF i) (fun σ=>∃a,σ = [none,a]) ks [none,none] g ⟨_,rfl⟩ (by
  rintro i hm σ ⟨a,rfl⟩
  exact⟨[none,some (.int i)],by simp,by simp,by simp [sF],⟨_,rfl⟩⟩)
 have c2:bW (gN 1) bC (aG aD (af (aa 1) (af (fC (.bl true)) ao))) (kD ks) [none,none] g=some ((ks.map fun(k:Nat)=>(k:Int)).map sF,g):=by rw [List.map_map];exact c1
 have sb:bu [none,none] σ = [none,none]:=rfl
 have i1:=qc ks
 have ss:=u7 (ks.map fun(k:Nat)=>(k:Int))
 rw [show decide (ks.map fun(k:Nat)=>(k:Int)).Nodup=decide ks.Nodup from decide_eq_decide.mpr (AR ks)] at ss
 have hln:(ks.map fun(k:Nat)=>(k:Int)).length=ks.length:=by simp
 have hld:((ks.map fun(k:Nat)=>(k:Int)).foldl step_dedup []).length<=ks.length:=by
  rcases mG (ks.map fun(k:Nat)=>(k:Int)) [] List.nodup_nil with h | h
  . rw [h.1];simp
  . have:=h.1;simp at this;omega
 generalize hns:(ks.map fun(k:Nat)=>(k:Int))=ns at *
 generalize hds:ns.foldl step_dedup []=ds at *
 have d1:=xc (g:=g) ns (by omega)
 rw [hds] at d1
 have i2:=n_ ds
 have s1:cK [.tup (kD ks)] g=some (.lst ((PySem.W.sortI ns).map D.int),g):=by
  show fU (kD ks) g=_
  have:ns.length<64:=by omega
  simp [fU,i1,this]
 have s2:cK [.aI g.length] (g ++ [dM ds])=some (.lst ((PySem.W.sortI ds).map D.int),g ++ [dM ds]):=by
  show((g ++ [dM ds])[g.length]?).bind (fun xs=>fU (aO xs) (g ++ [dM ds]))=_
  have:ds.length<64:=by omega
  simp [fU,wx,i2,this]
 have fl:∀a:List Int,flat (.lst (a.map D.int))=true/\dep (.lst (a.map D.int))<=60:=fun a=>by
  obtain⟨h1,h2⟩:=i_ (xs:=a.map D.int) fun d hd=>by
    obtain⟨i,_,rfl⟩:=List.mem_map.mp hd
    exact⟨_,rfl⟩
  exact⟨by simpa [flat] using h1,by simp [dep,h2]⟩
 have ee:aB (.lst ((PySem.W.sortI ns).map D.int)) (.lst ((PySem.W.sortI ds).map D.int))=decide ks.Nodup:=by simp only [aB];rw [jK,ss]
 have f1:=fl (PySem.W.sortI ns)
 have f2:=fl (PySem.W.sortI ds)
 have dr1:∀a:List D,dr (.lst a) (g ++ [dM ds]) = .lst a:=fun _=>rfl
 simp [xG,h2,s1,sb,c2,kl,hz,d1,s2,f1,f2,ee,df,dr1]
end Od
namespace Od
open PySem L3 L2 RI Pd
theorem gJ {α:Type}{f h:α->D}{t:FG}{c:FT}{e:FE}{cB:α->Bool}{nn:Nat}{g:G}{xs:List α}(hg:g[nn]? = some (xs.map f))(I:Sg->Prop)(hh:∀x∈xs,∀σ,I σ->∃σ1,t (f x) σ g=some (σ1,g)/\c σ1 g=some (cB x,g)/\(cB x=true->e σ1 g=some (h x,g))/\I σ1) :
  ∀(k:Nat) (σ:Sg),k<=xs.length->I σ->b9 nn xs.length t c e k σ g=some (((xs.drop (xs.length-k)).filter cB).map h,g)
 | 0,σ,_,_=>by simp [b9,hg]
 | k+1,σ,hk,hi=>by
  have hlt:xs.length-(k+1)<xs.length:=by omega
  obtain⟨σ1,h1,h2,h3,h4⟩:=hh (xs[xs.length-(k+1)]) (List.getElem_mem hlt) σ hi
  have ih:=gJ hg I hh k σ1 (by omega) h4
  rw [List.drop_eq_getElem_cons hlt,show xs.length-(k+1)+1=xs.length-k by omega]
  have hget:(xs.map f)[xs.length-(k+1)]? = some (f xs[xs.length-(k+1)]):=by simp [hlt]
  simp only [b9,hg,Option.bind_some,List.length_map,if_true,hget,h1,h2]
  cases hc:cB xs[xs.length-(k+1)] with
  | true=>simp only [if_true,h3 hc,Option.bind_some,ih,List.filter_cons,hc,List.map_cons]
  | false=>simp only [Bool.false_eq_true,if_false,ih,List.filter_cons,hc]
theorem oh {α:Type}{f:α->D}{t:FG}{b:FS}{bad:α->Bool}(I:Sg->Prop):∀(xs:List α) (σ:Sg) (g:G),I σ->(∀x∈xs,∀σ,I σ->∃σ1 σ2,t (f x) σ g=some (σ1,g)/\b σ1 g=some (if bad x then .rt (.bl false) else .nx,σ2,g)/\I σ2) ->
  ∃σ',I σ'/\forL t b (xs.map f) σ g=some (if xs.any bad then .rt (.bl false) else .nx,σ',g)
 | [],σ,g,hi,_=>⟨σ,hi,rfl⟩
 | d::ds,σ,g,hi,hh=>by
  obtain⟨σ1,σ2,h1,h2,h3⟩:=hh d List.mem_cons_self σ hi
  cases hb:bad d with
  | true =>
   rw [hb] at h2
   refine⟨σ2,h3,?_⟩
   simp only [List.map_cons,forL,h1,Option.bind_some,h2,List.any_cons,hb,Bool.true_or,if_true]
  | false =>
   rw [hb] at h2
   obtain⟨σ',h4,h5⟩:=oh I ds σ2 g h3 fun x hx=>hh x (List.mem_cons_of_mem _ hx)
   refine⟨σ',h4,?_⟩
   simp only [List.map_cons,forL,h1,Option.bind_some,h2,List.any_cons,hb,Bool.false_or,Bool.false_eq_true,if_false,h5]
def zC:FS:=bH (ib (cL (az (aj bO (aj aw (aa 4) (fC (.int 3))) (fC .non))) (az (aj cW (aa 3) (aa 2)))) (cL (az (aj et (aa 3) (aa 2))) (cL (az (aj rT (aj aw (aa 4) (fC (.int 3))) (fC .non))) (az (aj oEq (aj aw (aj aw (aa 4) (fC (.int 1))) (fC (.int 0))) (fC (.str "look"))))))) (aQ (fC (.bl false))) aR
def j4 (ks:List Nat)(y:Rt×Nat):Bool:=(y.1.1.e.isSome && !ks.contains y.2)||(ks.contains y.2&&(y.1.1.e.isNone&&ck y.1.1.dd))
def bN (p:Int)(xs:List Rt)(ks:List Nat)(a b c d e f g h i:Option D):Sg:=[some (.int p),some (.tup (xs.map rt)),some (.tup (kD ks)),a,b,c,d,e,f,g,h,i]
theorem GB {p:Int}{dd:D}(h:dQ p dd)(g:G):∃w zs,dd = .tup (.str w::zs)/\(w == "look")=ck dd:=by
 rcases h with rfl | ⟨c,v,rfl,_⟩
 . exact⟨_,_,rfl,rfl⟩
 . exact⟨_,_,rfl,rfl⟩
theorem Cq {p:Int}{xs:List Rt}{ks:List Nat}{g:G}(hx:∀x∈xs,bx p x)(o c d e f gg h i k:Option D):∃σ',(∃a b,σ'=bN p xs ks a b c d e f gg h i)/\forL (gT 2 (aq (gN 3) (aq (gN 4) aK))) zC (b5 (xs.map rt)) (bN p xs ks o k c d e f gg h i) g=some (if xs.zipIdx.any (j4 ks) then .rt (.bl false) else .nx,σ',g):=by
 have:=oh (f:=fun y:Rt×Nat=>.tup [.int (y.2:Nat),rt y.1]) (t:=gT 2 (aq (gN 3) (aq (gN 4) aK))) (b:=zC) (bad:=j4 ks) (fun σ=>∃a b,σ=bN p xs ks a b c d e f gg h i) xs.zipIdx (bN p xs ks o k c d e f gg h i) g ⟨_,_,rfl⟩ (by
  rintro⟨y,j⟩ hm σ ⟨a,b,rfl⟩
  refine⟨bN p xs ks (some (.int j)) (some (rt y)) c d e f gg h i,bN p xs ks (some (.int j)) (some (rt y)) c d e f gg h i,by simp [bN],?_,⟨_,_,rfl⟩⟩
  obtain⟨hj,hy⟩:=List.mem_zipIdx' hm
  have hy':y∈xs:=by rw [hy];exact List.getElem_mem _
  obtain⟨w,zs,e1,e2⟩:=GB (hx y hy').r.dd g
  have ig:=mI j ks g
  unfold j4
  rw [<- e2]
  cases he:y.1.e<;>cases hc:ks.contains j<;>cases hw:(w == "look")<;>rw [hc] at ig<;>simp [zC,bN,rt,mL,dD,cR,he,eD,isLit,cx,ig,e1,eq_str,flat,dep,hw])
 rw [kz]
 exact this
def tX:FE:=da bB (gq (aa 6)) [none,none,some 10,some 1] (gN 1) bC (ij (aj bO (aa 2) (fC .non)) (aj oLe (aa 2) (aj aw (aj aw (aa 3) (aa 1)) (fC (.int 2)))))
def uE:FS:=bH (az (aj oEq (aj aw (aa 8) (fC (.int 0))) (fC (.str "put")))) (aA (aj aM (aj aM (cQ (aa 5) cP (cf (aj aw (aa 8) (fC (.int 1))))) (aG aD (af (aj aw (aa 8) (fC (.int 2))) ao))) (cQ (aa 5) (cf (aj aM (aj aw (aa 8) (fC (.int 1))) (fC (.int 1)))) cP)) (gN 5)) (bH (az (aj ff (aa 11) (aa 5))) (aQ (fC (.bl false))) aR)
def xF:FS:=cc (bX isRef bG (aa 6) (af (aa 3) ao))
def yp:FS:=aA (aj aw (aa 1) (aa 3)) (gT 5 (aq (gN 7) (aq (gN 8) (aq (gN 9) (aq (gN 10) (aq (gN 11) aK))))))
def wA:FS:=ax yp (ax (bH (dg (au fz (af tX ao))) (aQ (fC (.bl false))) aR) (ax uE xF))
def fq (xs:List Rt):List D->List Nat->List Nat->Bool
 | _,_,[]=>true
 | st,seen,k::ks=>!(seen.any fun i=>cX (av xs k) (av xs i))&&(fH (av xs k) st&&fq xs (cj st (av xs k).1.dd) (seen ++ [k]) ks)
theorem rS (xs:List Rt):∀(ks seen:List Nat) (st:List D),fq xs st seen ks=(eZ xs seen ks&&fB st (ks.map (av xs)))
 | [],_,_=>rfl
 | k::ks,seen,st=>by
  simp only [fq,eZ,List.map_cons,fB,rS xs ks]
  generalize (seen.any fun i=>cX (av xs k) (av xs i))=a
  generalize fH (av xs k) st=b
  cases a<;>cases b<;>simp
theorem xN {p:Int}{xs:List Rt}{ks seen:List Nat}{g:G}{n:Nat}{x:Rt}{a b c e f gg i:Option D}(hx:∀y∈xs,bx p y)(hs:∀j∈seen,j<xs.length)(hl:seen.length<=1000)(hg:g[n]? = some (kD seen)) :
  tX (bN p xs ks a b c (some (.ref n)) e f gg (some (eD x.1.e)) i) g=some (.lst (seen.map fun j=>.bl (cX x (av xs j))),g):=by
 have hz:aF seen.length=true:=aL (by omega)
 have kl:(kD seen).length=seen.length:=by simp [kD]
 have c1:=gJ (f:=fun(j:Nat)=>D.int j) (t:=gN 1) (c:=bC) (cB:=fun _=>true) (e:=ij (aj bO (aa 2) (fC .non)) (aj oLe (aa 2) (aj aw (aj aw (aa 3) (aa 1)) (fC (.int 2))))) (h:=fun j=>.bl (cX x (av xs j))) (xs:=seen) hg (fun σ=>∃o,σ = [none,o,some (eD x.1.e),some (.tup (xs.map rt))]) (by
  rintro j hm σ ⟨o,rfl⟩
  refine⟨[none,some (.int j),some (eD x.1.e),some (.tup (xs.map rt))],by simp,by simp,fun _=>?_,⟨_,rfl⟩⟩
  have gj:=fA (nq (hs j hm))
  rw [vf]
  cases he:x.1.e<;>simp [gj,eD,isLit,cx,rt,jZ]) seen.length [none,none,some (eD x.1.e),some (.tup (xs.map rt))] (Nat.le_refl _) ⟨_,rfl⟩
 have ft:seen.filter (fun _=>true)=seen:=by simp
 rw [Nat.sub_self,List.drop_zero,ft] at c1
 have sb:bu [none,none,some 10,some 1] (bN p xs ks a b c (some (.ref n)) e f gg (some (eD x.1.e)) i) = [none,none,some (eD x.1.e),some (.tup (xs.map rt))]:=rfl
 unfold tX
 simp only [j5,nz]
 have v6:aa 6 (bN p xs ks a b c (some (.ref n)) e f gg (some (eD x.1.e)) i) g=some (.ref n,g):=rfl
 simp only [v6,Option.bind_some,hg,kl,hz,if_true,sb,c1]
 rfl
theorem EJ {g:G}{a b:List D}:(g ++ [a,b])[g.length+1]? = some b:=by simp
theorem Jn {g:G}{a b c:List D}:(g ++ [a,b]).set (g.length+1) c=g ++ [a,c]:=by
 rw [List.set_append_right _ _ (by omega)];simp
theorem Ao {p:Int}{xs:List Rt}{ks:List Nat}{g:G}{x:Rt}{st:List D}{a b d e gg h:Option D}(hp:p<=100)(hx:bx p x)(hs:St p st) :
   ∃σ',(fH x st=true->σ'=bN p xs ks a b (some (.tup (cj st x.1.dd))) d e (some x.1.dd) gg h (some x.2))/\uE (bN p xs ks a b (some (.tup st)) d e (some x.1.dd) gg h (some x.2)) g=some (if fH x st then .nx else .rt (.bl false),σ',g):=by
 obtain⟨f1,f2⟩:=bx.oP hx
 obtain⟨f3,f4⟩:=St.flat hs
 have f2':dep x.2<=60:=by omega
 have f5:aS st=true:=by simpa [L3.flat] using f3
 have hl2:=hs.1
 unfold fH
 rcases hx.r.dd with hd | ⟨c,v,hd,c0,c1,hv⟩
 . have lk:ck x.1.dd=true:=by rw [hd];rfl
   refine⟨bN p xs ks a b (some (.tup st)) d e (some x.1.dd) gg h (some x.2),fun _=>by rw [hd];rfl,?_⟩
   rw [lk]
   rw [hd]
   cases he:aB x.2 (.tup st)<;>simp [uE,bN,cR,Pd.eq_str,flat,dep,r6,f1,f2',f3,f5,he]
 . obtain⟨cn,rfl⟩:∃cn:Nat,c=cn:=⟨c.toNat,by omega⟩
   have hcl:cn<st.length:=by omega
   have s1:eu (.tup st) none (some (cn:Int)) g=some (.tup (st.take cn),g):=eM (mv hcl)
   have s2:eu (.tup st) (some ((cn:Int)+1)) none g=some (.tup (st.drop (cn+1)),g):=eM (iQ hcl)
   have y1:aF (min cn st.length+1)=true:=aL (by omega)
   have y2:aF (min cn st.length+1+(st.length-(cn+1)))=true:=aL (by omega)
   have lk:ck x.1.dd=false:=by rw [hd];simp [ck,nJ]
   refine⟨bN p xs ks a b (some (.tup (cj st x.1.dd))) d e (some x.1.dd) gg h (some x.2),fun _=>rfl,?_⟩
   rw [lk,hd]
   simp [uE,bN,cR,dD,jZ,Pd.eq_str,flat,dep,nJ,cj,s1,s2,y1,y2]
set_option maxHeartbeats 4000000 in
theorem BW {p:Int}{xs:List Rt}{ks:List Nat}{g:G}{dc:List D}(hp:p<=100)(hx:∀x∈xs,bx p x):∀(rest seen:List Nat) (st:List D) (a b e f gg h i:Option D),(∀k∈seen,k<xs.length)->(∀k∈rest,k<xs.length)->(seen++rest).length<=500->St p st ->
  ∃σ' seen',forL (gN 3) wA (kD rest) (bN p xs ks a b (some (.tup st)) (some (.ref (g.length+1))) e f gg h i) (g ++ [dc,kD seen])=some (if fq xs st seen rest then .nx else .rt (.bl false),σ',g ++ [dc,kD seen'])
 | [],seen,st,a,b,e,f,gg,h,i,_,_,_,_=>⟨_,seen,rfl⟩
 | k::rest,seen,st,a,b,e,f,gg,h,i,h1,h2,hl,hs=>by
  have hk:k<xs.length:=h2 k (by simp)
  have hxk:=hx _ (cq hk)
  have gk:=fA (nq hk)
  have hls:seen.length+1<=500:=by simp at hl;omega
  have hz:aF ((kD seen).length+1)=true:=aL (by simp [kD];omega)
  have ce:=xN (p:=p) (ks:=ks) (g:=g ++ [dc,kD seen]) (n:=g.length+1) (x:=av xs k) (a:=some (.int k)) (b:=b) (c:=some (.tup st)) (e:=some (.int (av xs k).1.h)) (f:=some (av xs k).1.dd) (gg:=some (.int (av xs k).1.b)) (i:=some (av xs k).2) hx h1 (by omega) EJ
  obtain⟨σ1,b1,b2⟩:=Ao (xs:=xs) (ks:=ks) (g:=g ++ [dc,kD seen]) (a:=some (.int k)) (b:=b) (d:=some (.ref (g.length+1))) (e:=some (.int (av xs k).1.h)) (gg:=some (.int (av xs k).1.b)) (h:=some (eD (av xs k).1.e)) hp hxk hs
  have asg:yp (bN p xs ks (some (.int k)) b (some (.tup st)) (some (.ref (g.length+1))) e f gg h i) (g ++ [dc,kD seen])=some (.nx,bN p xs ks (some (.int k)) b (some (.tup st)) (some (.ref (g.length+1))) (some (.int (av xs k).1.h)) (some (av xs k).1.dd) (some (.int (av xs k).1.b)) (some (eD (av xs k).1.e)) (some (av xs k).2),g ++ [dc,kD seen]):=by
   simp [yp,bN,gk,rt]
  have tg:gN 3 (.int (k:Int)) (bN p xs ks a b (some (.tup st)) (some (.ref (g.length+1))) e f gg h i) (g ++ [dc,kD seen])=some (bN p xs ks (some (.int k)) b (some (.tup st)) (some (.ref (g.length+1))) e f gg h i,g ++ [dc,kD seen]):=by simp [bN]
  have kd:kD (k::rest) = .int (k:Int)::kD rest:=rfl
  rw [kd]
  cases hb:(seen.any fun j=>cX (av xs k) (av xs j)) with
  | true =>
   refine⟨bN p xs ks (some (.int k)) b (some (.tup st)) (some (.ref (g.length+1))) (some (.int (av xs k).1.h)) (some (av xs k).1.dd) (some (.int (av xs k).1.b)) (some (eD (av xs k).1.e)) (some (av xs k).2),seen,?_⟩
   simp only [forL,tg,Option.bind_some]
   simp [wA,asg,ce,fz,dP,dX,List.any_map,Function.comp_def,hb,fq]
  | false =>
   cases ho:fH (av xs k) st with
   | false =>
    rw [ho] at b2
    refine⟨σ1,seen,?_⟩
    simp only [forL,tg,Option.bind_some]
    simp [wA,asg,ce,fz,dP,dX,List.any_map,Function.comp_def,hb,fq,b2,ho]
   | true =>
    rw [ho] at b2
    have:=b1 ho
    subst this
    obtain⟨σ',seen',ih⟩:=BW (ks:=ks) (g:=g) (dc:=dc) hp hx rest (seen ++ [k]) (cj st (av xs k).1.dd) (some (.int k)) b (some (.int (av xs k).1.h)) (some (av xs k).1.dd) (some (.int (av xs k).1.b)) (some (eD (av xs k).1.e)) (some (av xs k).2) (fun j hj=>by
     rcases List.mem_append.mp hj with hj | hj
     . exact h1 j hj
     . simp at hj;subst hj;exact hk) (fun j hj=>h2 j (by simp [hj])) (by simpa using hl) (St.put hs hxk.r.dd)
    refine⟨σ',seen',?_⟩
    have ap:xF (bN p xs ks (some (.int k)) b (some (.tup (cj st (av xs k).1.dd))) (some (.ref (g.length+1))) (some (.int (av xs k).1.h)) (some (av xs k).1.dd) (some (.int (av xs k).1.b)) (some (eD (av xs k).1.e)) (some (av xs k).2)) (g ++ [dc,kD seen])=some (.nx,bN p xs ks (some (.int k)) b (some (.tup (cj st (av xs k).1.dd))) (some (.ref (g.length+1))) (some (.int (av xs k).1.h)) (some (av xs k).1.dd) (some (.int (av xs k).1.b)) (some (eD (av xs k).1.e)) (some (av xs k).2),g ++ [dc,kD (seen ++ [k])]):=by
     simp [xF,bN,EJ,Jn,hz]
     simp [kD]
    rw [show fq xs st seen (k::rest)=fq xs (cj st (av xs k).1.dd) (seen ++ [k]) rest by simp [fq,hb,ho],<- ih]
    simp only [forL,tg,Option.bind_some]
    simp [wA,asg,ce,fz,dP,dX,List.any_map,Function.comp_def,hb,b2,ap]
theorem og {x:Rt}(hl:ck x.1.dd=true)(hn:x.2 = .non):∀(cs:List Rt) (st:List D),x∈cs->fB st cs=false
 | [],_,h=>by simp at h
 | y::cs,st,h=>by
  simp only [fB]
  rcases List.mem_cons.mp h with rfl | h
  . simp [fH,hl,hn,aB]
  . rw [og hl hn cs _ h];simp
theorem EV {p:Int}{xs:List Rt}{ks:List Nat}(hx:∀x∈xs,bx p x)(hk:∀k∈ks,k<xs.length):sC p xs ks=(decide ks.Nodup&&(!(xs.zipIdx.any (j4 ks))&&fq xs (zs p) [] ks)):=by
 unfold sC
 rw [rS]
 congr 1
 cases hb:xs.zipIdx.any (j4 ks) with
 | false =>
  have:gu xs ks=true:=by
    unfold gu
    rw [List.all_eq_true]
    intro y hy
    rw [List.any_eq_false] at hb
    have:=hb y hy
    unfold j4 at this
    cases h1:y.1.1.e<;>cases h2:ks.contains y.2<;>simp_all
  simp [this]
 | true =>
  rw [List.any_eq_true] at hb
  obtain⟨y,hy,hb⟩:=hb
  unfold j4 at hb
  simp only [Bool.or_eq_true,Bool.and_eq_true,Bool.not_eq_true'] at hb
  rcases hb with⟨h1,h2⟩ | ⟨h1,h2,h3⟩
  . have:gu xs ks=false:=by
     unfold gu
     rw [List.all_eq_false]
     refine⟨y,hy,?_⟩
     cases he:y.1.1.e with
     | none=>rw [he] at h1;cases h1
     | some e=>simp at h2 ⊢;exact h2
    simp [this]
  . obtain⟨j1,j2⟩:=List.mem_zipIdx' hy
    have hm:y.2∈ks:=by simpa using h1
    have ha:av xs y.2=y.1:=by
     unfold av
     rw [j2]
     simp [j1]
    have hym:y.1∈xs:=by rw [j2];exact List.getElem_mem _
    have ht:=(hx _ hym).t
    have hs:y.1.1.e.isSome=false:=by cases he:y.1.1.e with | none=>rfl | some e=>rw [he] at h2;cases h2
    rw [hs,Bool.and_false] at ht
    have ht':y.1.2 = .non:=by simpa using ht
    have:=og (x:=y.1) h3 ht' (ks.map (av xs)) (zs p) (List.mem_map.mpr ⟨y.2,hm,ha⟩)
    rw [this]
    simp
def Hl:FS:=cI (cY (aa 1)) (gT 2 (aq (gN 3) (aq (gN 4) aK))) zC
def gW:FS:=lr 5 6 (af (aj bM (aG aD (af (fC (.int 0)) ao)) (aa 0)) (af (aG mkRef ao) ao))
def Hu:FS:=cI (b_ (aa 2)) (gN 3) wA
def cF:FS:=ax (bH xG (aQ (fC (.bl false))) aR) (ax Hl (ax gW (ax Hu (aQ (fC (.bl true))))))
def nT (p:Int)(f:Fn):Prop:=∀xs ks g,(∀x∈xs,bx p x)->(∀k∈ks,k<xs.length)->ks.length<64->Clean g->f [.int p,.tup (xs.map rt),.tup (kD ks)] g=some (.bl (sC p xs ks),g)
theorem ud {p:Int}(h0:0<=p)(hp:p<=100):nT p (aJ false 12 3 cF):=fun xs ks g hx hk hl hc=>by
 have key:wp (aJ false 12 3 cF [.int p,.tup (xs.map rt),.tup (kD ks)] g) fun r=>r=(.bl (sC p xs ks),g):=by
  refine fL rfl ?_
  show wp (cF (bN p xs ks none none none none none none none none none) g) _
  have c1:=Am (σ:=bN p xs ks none none none none none none none none none) (g:=g) (ks:=ks) rfl hl
  rw [EV hx hk]
  have fin:∀(b:Bool) (gg:G),gg.take g.length=g->g.length<=gg.length->bp g.length (.bl b)=true/\(gg.take g.length).all (aT g.length)=true/\g.length<=gg.length/\(D.bl b,gg.take g.length)=(D.bl b,g):=fun b gg e1 e2=>⟨rfl,by rw [e1];exact hc.all _,e2,by rw [e1]⟩
  generalize hdc:dM ((ks.map fun(k:Nat)=>(k:Int)).foldl PyProof.Rows.step_dedup [])=dc at *
  cases hn:decide ks.Nodup with
  | false =>
   rw [hn] at c1
   have e:cF (bN p xs ks none none none none none none none none none) g=some (.rt (.bl false),bN p xs ks none none none none none none none none none,g ++ [dc]):=by
    simp [cF,c1]
   exact⟨_,e,fin false _ (by simp) (by simp)⟩
  | true =>
   rw [hn] at c1
   obtain⟨σ1,⟨a,b,rfl⟩,l1⟩:=Cq (ks:=ks) (g:=g ++ [dc]) hx none none none none none none none none none
   have l1':Hl (bN p xs ks none none none none none none none none none) (g ++ [dc])=_:=l1
   clear l1
   cases hb:xs.zipIdx.any (j4 ks) with
   | true =>
    rw [hb] at l1'
    have e:cF (bN p xs ks none none none none none none none none none) g=some (.rt (.bl false),bN p xs ks a b none none none none none none none,g ++ [dc]):=by
     simp [cF,c1,l1']
    exact⟨_,e,fin false _ (by simp) (by simp)⟩
   | false =>
    rw [hb] at l1'
    have mz:bM (.tup [.int 0]) (.int p) (g ++ [dc])=some (.tup (zs p),g ++ [dc]):=by
     rw [t_ (by omega) (by omega) (by simp)]
     simp [zs]
    obtain⟨σ2,seen',l2⟩:=BW (ks:=ks) (g:=g) (dc:=dc) hp hx ks [] (zs p) a b none none none none none (by simp) hk (by simp;omega) (St.zs h0)
    have pr:gW (bN p xs ks a b none none none none none none none) (g ++ [dc])=some (.nx,bN p xs ks a b (some (.tup (zs p))) (some (.ref (g.length+1))) none none none none none,g ++ [dc,kD []]):=by
     simp [gW,bN,mz]
     simp [kD]
    have l2':Hu (bN p xs ks a b (some (.tup (zs p))) (some (.ref (g.length+1))) none none none none none) (g ++ [dc,kD []])=_:=l2
    clear l2
    cases hC:fq xs (zs p) [] ks with
    | false =>
     rw [hC] at l2'
     have e:cF (bN p xs ks none none none none none none none none none) g=some (.rt (.bl false),σ2,g ++ [dc,kD seen']):=by
      simp [cF,c1,l1',pr,l2']
     exact⟨_,e,fin false _ (by simp) (by simp)⟩
    | true =>
     rw [hC] at l2'
     have e:cF (bN p xs ks none none none none none none none none none) g=some (.rt (.bl true),σ2,g ++ [dc,kD seen']):=by
      simp [cF,c1,l1',pr,l2']
     exact⟨_,e,fin true _ (by simp) (by simp)⟩
 obtain⟨r,e,rfl⟩:=key
 exact e
def qQ (dF:Row->D)(rws:List Row):List Rt:=rws.map fun r=>(r,dF r)
theorem Gz {f1 f2:FS}{σ:Sg}{g:G}{Q:F×Sg×G->Prop}(h:wp (f1 σ g) fun r=>r.1 = .nx/\wp (f2 r.2.1 r.2.2) Q):wp (ax f1 f2 σ g) Q:=by
 obtain⟨⟨r,σ1,g1⟩,e,h1,h2⟩:=h
 dsimp only at h1 h2
 subst h1
 rw [dy,e]
 exact h2
theorem Bc {n k:Nat}(h:k<n):gY n (k:Int)=some k:=by
 unfold gY
 have h1:(0:Int)<=(k:Int):=by omega
 have h2:(k:Int)<(n:Int):=by omega
 simp [h1,h2]
theorem CN {g:G}{m k:Nat}{xs:List D}{v:D}(hm:g[m]? = some xs)(hk:k<xs.length):putD (.ref m) (.int k) v g=some (g.set m (xs.set k v)):=by
 unfold putD
 simp only [hm,Bc hk]
def HA (take:Fn):FS:=aA (au take (af (aa 0) (af (au cU (af (aa 3) ao)) ao))) (gN 5)
def Ds:FS:=aA (aj aw (aa 3) (aa 5)) (gT 5 (aq (gN 6) (aq (gN 7) (aq (gN 8) (aq (gN 9) (aq (gN 10) aK))))))
def GR (take:Fn):FS:=aA (au take (af (aa 0) (af (aa 1) ao))) (gN 11)
def DL:FE:=da bB (gq (aa 3)) [none,none] (gN 1) (az (aj bO (aj aw (aa 1) (fC (.int 4))) (fC .non))) (aj aw (aa 1) (fC (.int 4)))
def Hg (val:Fn):FS:=aA (aj aM (aj aM (cQ (aa 10) cP (cf (aa 11))) (aG aD (af (au val (af (aa 0) ao)) ao))) (cQ (aa 10) (cf (aj aM (aa 11) (fC (.int 1)))) cP)) (gN 13)
def Hw (pick:Fn):FS:=aA (aG aD (af (aa 6) (af (aa 7) (af (aa 8) (af (aa 9) (af (au pick (af (aa 0) (af (aG b8 (af (aa 13) (af (au pick (af (aa 0) (af (aa 12) ao))) ao))) ao))) ao)))))) (dB (aa 3) (aa 5))
def yE (take pick val:Fn):FS:=ax (HA take) (ax Ds (bH (az (aj bO (aa 10) (fC .non))) (ax (GR take) (ax (aA DL (gN 12)) (ax (Hg val) (Hw pick)))) aR))
def CO:FS:=aQ (au de (af (aa 3) ao))
def pB (take pick val:Fn):FS:=ax (aA (au kc (af (aa 2) ao)) (gN 3)) (ax (cI (gy (af (aj bM (au pick (af (aa 0) (af (aG b8 (af (fC (.int 0)) (af (fC (.int 1)) (af (fC (.int 1)) (af (fC (.int 2)) (af (fC (.int 3)) ao)))))) ao))) (au gn (af (aj df (aa 3) (aG b8 ao)) ao))) ao)) (gN 4) (yE take pick val)) CO)
theorem bx.dF {p:Int}{x:Rt}(h:bx p x):x.2 = .non \/ ∃st,x.2 = .tup st/\St p st/\(ck x.1.dd&&x.1.e.isSome)=true:=by
 have ht:=h.t
 split at ht
 . rename_i hc
   unfold jz at ht
   split at ht
   . rename_i st e
     simp only [Bool.and_eq_true,decide_eq_true_eq,List.all_eq_true] at ht
     exact .inr ⟨st,e,ht,hc⟩
   . cases ht
 . exact .inl ht
def kG (ys:List Rt):List D:=(ys.filter fun y=>!fY y.2).map (·.2)
theorem Ey {p:Int}{ys:List Rt}{g:G}{m:Nat}{σ:Sg}(hy:∀y∈ys,bx p y)(hl:ys.length<=100)(hg:g[m]? = some (ys.map rt))(h3:σ[3]? = some (some (.ref m))):DL σ g=some (.lst (kG ys),g):=by
 have hz:aF ys.length=true:=aL (by omega)
 have c1:=gJ (f:=rt) (t:=gN 1) (c:=az (aj bO (aj aw (aa 1) (fC (.int 4))) (fC .non))) (cB:=fun y=>!fY y.2) (e:=aj aw (aa 1) (fC (.int 4))) (h:=fun y=>y.2) (xs:=ys) hg (fun σ=>∃o,σ = [none,o]) (by
  rintro y hm σ ⟨o,rfl⟩
  refine⟨[none,some (rt y)],by simp,?_,fun _=>by simp [rt,nG],⟨_,rfl⟩⟩
  rcases bx.dF (hy y hm) with e | ⟨st,e,_⟩
  . simp [rt,nG,e,isLit,cx,fY]
  . simp [rt,nG,e,isLit,cx,fY]) ys.length [none,none] (Nat.le_refl _) ⟨_,rfl⟩
 rw [Nat.sub_self,List.drop_zero] at c1
 have sb:bu [none,none] σ = [none,none]:=rfl
 unfold DL
 simp only [j5,nz,fS,h3,Option.bind_some,hg,List.length_map,hz,if_true,sb,c1]
 rfl
theorem E6 {p:Int}{ys:List Rt}(hy:∀y∈ys,bx p y){d:D}(hd:d∈kG ys):∃st,d = .tup st/\St p st:=by
 obtain⟨y,h1,rfl⟩:=List.mem_map.mp hd
 obtain⟨h2,h3⟩:=List.mem_filter.mp h1
 rcases bx.dF (hy y h2) with e | ⟨st,e,h4,_⟩
 . rw [e] at h3;cases h3
 . exact⟨st,e,h4⟩
def Eo (n:Nat)(p:Int)(xs:List Rt)(B:Int)(g:G)(i:Nat)(σ:Sg)(gg:G):Prop:=i<=3->∃(ys:List Rt) (o4 o5 o6 o7 o8 o9 o10 o11 o12 o13:Option D),σ = [some (.ref n),some (.int p),some (.tup (xs.map rt)),some (.ref g.length),o4,o5,o6,o7,o8,o9,o10,o11,o12,o13]/\Mk g gg n (B+10+10*i) (ys.map rt)/\(∀y∈ys,bx p y)/\ys.length=xs.length
set_option maxHeartbeats 4000000 in
theorem Dj {take pick val:Fn}(ht:dS take)(hp:eH pick)(hv:eO val){n:Nat}{g gg:G}{B p:Int}{xs ys:List Rt}{o4 o5 o6 o7 o8 o9 o10 o11 o12 o13:Option D}{Q:F×Sg×G->Prop}(hB:B+10<2 ^ 40)(p0:0<p)(hp2:p<=100)(m:Mk g gg n B (ys.map rt))(hy:∀y∈ys,bx p y)(hl:ys.length<=100)(h0:0<ys.length)
   (q:∀(ys':List Rt) g' o4 o5 o6 o7 o8 o9 o10 o11 o12 o13,Mk g g' n (B+6) (ys'.map rt)->(∀y∈ys',bx p y)->ys'.length=ys.length->Q (.nx,[some (.ref n),some (.int p),some (.tup (xs.map rt)),some (.ref g.length),o4,o5,o6,o7,o8,o9,o10,o11,o12,o13],g')) :
   wp (yE take pick val [some (.ref n),some (.int p),some (.tup (xs.map rt)),some (.ref g.length),o4,o5,o6,o7,o8,o9,o10,o11,o12,o13] gg) Q:=by
 unfold yE
 refine Gz ?_
 have a0:=m.at_
 unfold HA
 simp [a0,bZ]
 refine ht.w (by omega) (by omega) (by omega) m.hd fun r g2 r0 r1 h2 f2=>?_
 have m2:=m.step h2 f2
 have a2:=m2.at_
 obtain⟨k,rfl⟩:∃k:Nat,r=k:=⟨r.toNat,by omega⟩
 have hk:k<ys.length:=by omega
 have gk:=fA (nq hk)
 have hyk:=hy _ (cq hk)
 simp
 have eB:Ds [some (.ref n),some (.int p),some (.tup (xs.map rt)),some (.ref g.length),o4,some (.int k),o6,o7,o8,o9,o10,o11,o12,o13] g2=some (.nx,[some (.ref n),some (.int p),some (.tup (xs.map rt)),some (.ref g.length),o4,some (.int k),some (.int (av ys k).1.h),some (av ys k).1.dd,some (.int (av ys k).1.b),some (eD (av ys k).1.e),some (av ys k).2,o11,o12,o13],g2):=by
   simp [Ds,iL,bZ,a2,gk,rt]
 refine⟨_,eB,?_⟩
 rcases bx.dF hyk with e | ⟨st,e,hst,hlk⟩
 . simp [e,isLit,cx]
   exact q ys g2 _ _ _ _ _ _ _ _ _ _ (m2.mono (by omega)) hy rfl
 . simp [e,isLit,cx,GR]
   refine ht.w (by omega) p0 (by omega) m2.hd fun c g3 c0 c1 h3 f3=>?_
   have m3:=m2.step h3 f3
   have bt:=Ey (σ:=[some (.ref n),some (.int p),some (.tup (xs.map rt)),some (.ref g.length),o4,some (.int k),some (.int (av ys k).1.h),some (av ys k).1.dd,some (.int (av ys k).1.b),some (eD (av ys k).1.e),some (.tup st),some (.int c),o12,o13]) hy hl m3.at_ rfl
   simp
   refine⟨_,bt,?_⟩
   have hl2:=hst.1
   obtain⟨cn,rfl⟩:∃cn:Nat,c=cn:=⟨c.toNat,by omega⟩
   have hcl:cn<st.length:=by omega
   have s1:∀g,eu (.tup st) none (some (cn:Int)) g=some (.tup (st.take cn),g):=fun g=>eM (mv hcl)
   have s2:∀g,eu (.tup st) (some ((cn:Int)+1)) none g=some (.tup (st.drop (cn+1)),g):=fun g=>eM (iQ hcl)
   have y1:aF (min cn st.length+1)=true:=aL (by omega)
   have y2:aF (min cn st.length+1+(st.length-(cn+1)))=true:=aL (by omega)
   simp [Hg,s1]
   refine hv.w (by omega) m3.hd fun v g4 v0 h4 f4=>?_
   have m4:=m3.step h4 f4
   have hst':St p (st.take cn++v::st.drop (cn+1)):=⟨by simp;omega,fun x hx=>by
     rcases List.mem_append.mp hx with hx | hx
     . exact hst.2 x (List.mem_of_mem_take hx)
     . rcases List.mem_cons.mp hx with rfl | hx
       . exact nt v0
       . exact hst.2 x (List.mem_of_mem_drop hx)⟩
   simp [s2,y1,y2,Hw]
   have tn:kG ys ≠ []:=fun z=>by
     have:st.map id=st:=by simp
     have hm:D.tup st∈kG ys:=List.mem_map.mpr ⟨av ys k,List.mem_filter.mpr ⟨cq hk,by rw [e];rfl⟩,e⟩
     rw [z] at hm
     cases hm
   have tl:(kG ys).length<1000:=by
     unfold kG
     rw [List.length_map]
     have:=List.length_filter_le (fun y:Rt=>!fY y.2) ys
     omega
   refine hp.w (by omega) tn tl m4.hd fun d g5 hd h5 f5=>?_
   have m5:=m4.step h5 f5
   obtain⟨st2,rfl,hst2⟩:=E6 hy hd
   simp
   refine hp.w (by omega) (by simp) (by simp) m5.hd fun d g6 hd h6 f6=>?_
   have m6:=m5.step h6 f6
   obtain⟨st3,rfl,hst3⟩:∃st3,d = .tup st3/\St p st3:=by
     rcases List.mem_cons.mp hd with rfl | hd
     . exact⟨_,rfl,hst'⟩
     . simp at hd;subst hd;exact⟨_,rfl,hst2⟩
   have pa:=CN (v:=rt ((av ys k).1,.tup st3)) m6.at_ (k:=k) (by simpa using hk)
   have pa':putD (.ref g.length) (.int k) (.tup [.int (av ys k).1.h,(av ys k).1.dd,.int (av ys k).1.b,eD (av ys k).1.e,.tup st3]) g6=_:=pa
   simp [pa']
   have m7:=m6.put (ys:=(ys.map rt).set k (rt ((av ys k).1,.tup st3)))
   rw [<- List.map_set] at m7 ⊢
   refine q (ys.set k ((av ys k).1,.tup st3)) _ _ _ _ _ _ _ _ _ _ _ (m7.mono (by omega)) (fun y hyy=>?_) (by simp)
   rcases List.mem_or_eq_of_mem_set hyy with h | rfl
   . exact hy y h
   . exact⟨hyk.r,by rw [if_pos hlk];exact St.B hst3⟩
theorem bx.Gq {p:Int}{x:Rt}(h:bx p x):L3.flat (rt x)=true/\dep (rt x)<=6:=by
 obtain⟨h1,h2⟩:=h.r.dd.flat
 obtain⟨h3,h4⟩:=bx.oP h
 have he:L3.flat (eD x.1.e)=true/\dep (eD x.1.e)=0:=by cases x.1.e<;>exact⟨rfl,rfl⟩
 constructor
 . simp [rt,L3.flat,L3.aS,h1,he.1,h3]
 . simp [rt,dep,bR,he.2];omega
theorem yJ {p:Int}{xs:List Rt}(h:∀x∈xs,bx p x):L3.aS (xs.map rt)=true/\bR (xs.map rt)<=6:=lh fun d hd=>by
 obtain⟨x,hx,rfl⟩:=List.mem_map.mp hd
 exact bx.Gq (h x hx)
theorem bx.bp {p:Int}{x:Rt}(h:bx p x)(n:Nat):L3.bp n (rt x)=true:=by
 have h1:=h.r.dd.bp n
 have h2:L3.bp n (eD x.1.e)=true:=by cases x.1.e<;>rfl
 have h3:L3.bp n x.2=true:=by
  have ht:=h.t
  split at ht
  . exact(ml ht).2 n
  . rw [ht];rfl
 simp [rt,L3.bp,aT,h1,h2,h3]
theorem A0 {p:Int}{xs:List Rt}(h:∀x∈xs,bx p x)(n:Nat):aT n (xs.map rt)=true:=cg fun d hd=>by
 obtain⟨x,hx,rfl⟩:=List.mem_map.mp hd
 exact bx.bp (h x hx) n
theorem BH {g:G}{m:Nat}{xs:List D}(hg:g[m]? = some xs)(h1:L3.aS xs=true)(h2:bR xs<=50):df (.ref m) (.lst []) g=some (.bl (!xs.isEmpty),g):=by
 have d1:dr (.ref m) g = .lst xs:=by simp [dr,hg]
 have d2:dr (.lst []) g = .lst []:=rfl
 have e:aB (.lst xs) (.lst [])=xs.isEmpty:=by cases xs<;>simp [aB,bY]
 unfold df
 rw [d1,d2,e,if_pos]
 simp [L3.flat,h1,aS,dep]
 omega
set_option maxHeartbeats 4000000 in
theorem CH {take pick val:Fn}(ht:dS take)(hp:eH pick)(hv:eO val){n:Nat}{g:G}{B p:Int}{xs:List Rt}{Q:D×G->Prop}(hB:B+100<2 ^ 40)(p0:0<p)(hp2:p<=100)(hx:∀x∈xs,bx p x)(hl:xs.length<=100)(hd:Hd g n B)(hc:Clean g)
   (q:∀(ys:List Rt) g',(∀y∈ys,bx p y)->ys.length=xs.length->Hd g' n (B+50)->Fr n g g'->Q (.tup (ys.map rt),g')) :
   wp (aJ false 14 3 (pB take pick val) [.ref n,.int p,.tup (xs.map rt)] g) Q:=by
 refine fL rfl ?_
 unfold pB
 have hz:aF xs.length=true:=aL (by omega)
 simp [kc,bZ,hz]
 refine lF ?_
 simp
 have m0:Mk g (g ++ [xs.map rt]) n B (xs.map rt):=Mk.init hd
 refine hp.w (by omega) (by simp) (by simp) m0.hd fun c g2 hc' h2 f2=>?_
 have m2:=m0.step h2 f2
 obtain⟨c,rfl,c0,c3⟩:∃i:Int,c = .int i/\0<=i/\i<=3:=by
   simp only [List.mem_cons,List.mem_nil_iff,or_false] at hc'
   rcases hc' with rfl | rfl | rfl | rfl | rfl<;>exact⟨_,rfl,by decide,by decide⟩
 obtain⟨fl1,fl2⟩:=yJ hx
 have nn:=BH m2.at_ fl1 (by omega)
 have em:(xs.map rt).isEmpty=xs.isEmpty:=by cases xs<;>rfl
 rw [em] at nn
 simp [nn]
 have fin:∀(σ:Sg) (gg:G) (k:Nat),k<=3->Eo n p xs B g k σ gg->wp (CO σ gg) fun r=>match r.1 with
   | .rt d=>L3.bp g.length d=true/\(∀x,x∈List.take g.length r.2.2->aT g.length x=true)/\g.length<=r.2.2.length/\Q (d,r.2.2.take g.length)
   | .nx=>(∀x,x∈List.take g.length r.2.2->aT g.length x=true)/\g.length<=r.2.2.length/\Q (.non,r.2.2.take g.length)
   | _=>False:=fun σ gg k hk hI=>by
   obtain⟨ys,o4,o5,o6,o7,o8,o9,o10,o11,o12,o13,rfl,m,hy,e⟩:=hI hk
   have a0:=m.at_
   have y1:aF ys.length=true:=by rw [e];exact hz
   obtain⟨h1,h2⟩:=m.fin
   have hml:=m.len
   have cl:=(hc.fr h2 h1).all g.length
   refine⟨(.rt (.tup (ys.map rt)),[some (.ref n),some (.int p),some (.tup (xs.map rt)),some (.ref g.length),o4,o5,o6,o7,o8,o9,o10,o11,o12,o13],gg),?_,?_⟩
   . simp [CO,de,bZ,a0,y1]
   . exact⟨by simpa [L3.bp] using A0 hy g.length,fun x hx'=>List.all_eq_true.mp cl x hx',by show g.length<=gg.length;omega,q ys _ hy e (h1.mono (by omega)) h2⟩
 have st0:Eo n p xs B g 0 [some (.ref n),some (.int p),some (.tup (xs.map rt)),some (.ref g.length),none,none,none,none,none,none,none,none,none,none] g2:=fun _=>⟨xs,_,_,_,_,_,_,_,_,_,_,rfl,m2.mono (by omega),hx,rfl⟩
 have okm:cG c (if xs = [] then 0 else 1)=true:=eV (by omega) (by omega)
 simp [okm]
 have jb:0<=(c*if xs = [] then 0 else 1)/\(c*if xs = [] then 0 else 1)<=3:=by split<;>omega
 refine⟨by omega,by omega,?_⟩
 refine iM (fun i σ gg=>Eo n p xs B g i σ gg) _ 0 _ _ st0 ?_ ?_
 . intro j d σ gg hdj hI
   obtain⟨hj,rfl⟩:=i4 hdj
   have hx0:xs ≠ []:=fun z=>by rw [if_pos z] at hj;simp at hj
   have hj3:j<3:=by omega
   obtain⟨ys,o4,o5,o6,o7,o8,o9,o10,o11,o12,o13,rfl,m,hy,e⟩:=hI (by omega)
   rw [Nat.zero_add] at *
   simp
   refine Dj ht hp hv (by omega) p0 hp2 m hy (by omega) (by rw [e];exact List.length_pos_iff.mpr hx0) fun ys' g' o4 o5 o6 o7 o8 o9 o10 o11 o12 o13 m' hy' e'=>?_
   exact fun _=>⟨ys',_,_,_,_,_,_,_,_,_,_,rfl,m'.mono (by omega),hy',e'.trans e⟩
 . intro σ gg hI
   rw [iV,Nat.zero_add] at hI
   simp
   exact fin σ gg _ (by omega) hI
end Od
namespace Sd
open PySem L3 L2 RI Pd Od
abbrev aC:=Nat×List D
def early (xs:List Rt)(k:Nat):List Nat:=(List.range xs.length).filter fun o=>cX (av xs o) (av xs k)
def cb (xs:List Rt)(r:aC)(k:Nat):Bool:=!r.1.testBit k&&(((early xs k).all fun o=>r.1.testBit o)&&fH (av xs k) r.2)
def bA (xs:List Rt)(r:aC)(k:Nat):aC:=(r.1 ||| 1 <<< k,cj r.2 (av xs k).1.dd)
inductive Path (xs:List Rt)(p:Int):List Nat->aC->Prop
 | nil:Path xs p [] (0,zs p)
 | snoc {ks r k}:Path xs p ks r->k<xs.length->cb xs r k=true->Path xs p (ks ++ [k]) (bA xs r k)
theorem nA {xs:List Rt}{r:aC}{k i:Nat}:(bA xs r k).1.testBit i=(r.1.testBit i||decide (i=k)):=by
 unfold bA
 rw [Nat.testBit_or,Nat.one_shiftLeft,Nat.testBit_two_pow]
 congr 1
 exact decide_eq_decide.mpr eq_comm
theorem Path.bits {xs p ks r}(h:Path xs p ks r):∀i,r.1.testBit i=ks.contains i:=by
 induction h with
 | nil=>intro i;simp
 | snoc h hk hc ih =>
  intro i
  rw [nA,ih]
  simp
theorem Path.lt {xs p ks r}(h:Path xs p ks r):∀k∈ks,k<xs.length:=by
 induction h with
 | nil=>intro k hk;cases hk
 | snoc h hk hc ih =>
  intro k' hk'
  rcases List.mem_append.mp hk' with h' | h'
  . exact ih k' h'
  . simp at h';subst h';exact hk
theorem Path.nodup {xs p ks r}(h:Path xs p ks r):ks.Nodup:=by
 induction h with
 | nil=>exact List.nodup_nil
 | snoc h hk hc ih =>
  rw [List.nodup_append]
  refine⟨ih,by simp,fun a ha b hb e=>?_⟩
  simp at hb
  subst hb;subst e
  have:=h.bits a
  simp [cb,this,ha] at hc
theorem kS {xs:List Rt}:∀(ks seen:List Nat) (k:Nat),eZ xs seen (ks ++ [k])=(eZ xs seen ks && !((seen++ks).any fun i=>cX (av xs k) (av xs i)))
 | [],seen,k=>by simp [eZ]
 | j::ks,seen,k=>by
  simp only [List.cons_append,eZ,kS ks]
  rw [List.append_assoc,List.singleton_append,Bool.and_assoc]
theorem mr:∀(cs:List Rt) (st:List D) (x:Rt),fB st (cs ++ [x])=(fB st cs&&fH x (cs.foldl (fun s y=>cj s y.1.dd) st))
 | [],st,x=>by simp [fB]
 | y::cs,st,x=>by simp only [List.cons_append,fB,mr cs,List.foldl_cons,Bool.and_assoc]
theorem Path.st {xs p ks r}(h:Path xs p ks r):r.2=(ks.map (av xs)).foldl (fun s y=>cj s y.1.dd) (zs p):=by
 induction h with
 | nil=>rfl
 | snoc h hk hc ih=>simp [bA,ih]
theorem Path.early {xs p ks r}(h:Path xs p ks r):∀i∈ks,∀o<xs.length,cX (av xs o) (av xs i)=true->o∈ks:=by
 induction h with
 | nil=>intro i hi;cases hi
 | @snoc ks r k h hk hc ih =>
  intro i hi o ho ha
  rcases List.mem_append.mp hi with hi | hi
  . exact List.mem_append.mpr (.inl (ih i hi o ho ha))
  . simp at hi
    subst hi
    simp only [cb,Bool.and_eq_true,List.all_eq_true] at hc
    have:=hc.2.1 o (List.mem_filter.mpr ⟨List.mem_range.mpr ho,ha⟩)
    rw [h.bits] at this
    exact List.mem_append.mpr (.inl (by simpa using this))
theorem Path.turns {xs p ks r}(h:Path xs p ks r):eZ xs [] ks=true:=by
 induction h with
 | nil=>rfl
 | @snoc ks r k h hk hc ih =>
  rw [kS,ih]
  simp only [List.nil_append,Bool.true_and,Bool.not_eq_true',List.any_eq_false]
  intro i hi ha
  have hm:=h.early i hi k hk ha
  have hb:=h.bits k
  have:ks.contains k=true:=by simpa using hm
  rw [this] at hb
  simp [cb,hb] at hc
theorem Path.fits {xs p ks r}(h:Path xs p ks r):fB (zs p) (ks.map (av xs))=true:=by
 induction h with
 | nil=>rfl
 | @snoc ks r k h hk hc ih =>
  rw [List.map_append,List.map_singleton,mr,ih,<- h.st]
  simp only [cb,Bool.and_eq_true] at hc
  simp [hc.2.2]
def dw (xs:List Rt)(b:Nat):Bool:=xs.zipIdx.all fun y=>y.1.1.e.isNone||b.testBit y.2
theorem Path.end_ {xs p ks r}(h:Path xs p ks r):dw xs r.1=gu xs ks:=by
 unfold dw gu
 congr 1
 funext y
 rw [h.bits]
theorem Path.ok {xs p ks r}(h:Path xs p ks r)(he:dw xs r.1=true):sC p xs ks=true:=by
 rw [h.end_] at he
 simp [sC,h.nodup,he,h.turns,h.fits]
theorem qx {α:Type}:∀{V W:List α},V.Nodup->(∀v∈V,v∈W)->V.length<=W.length
 | [],_,_,_=>Nat.zero_le _
 | v::V,W,hn,h=>by
  rw [List.nodup_cons] at hn
  obtain⟨a,b,rfl⟩:=List.append_of_mem (h v (by simp))
  have:=qx (V:=V) (W:=a++b) hn.2 fun w hw=>by
   have:=h w (by simp [hw])
   rcases List.mem_append.mp this with h1 | h1
   . simp [h1]
   . rcases List.mem_cons.mp h1 with rfl | h1
     . exact absurd hw hn.1
     . simp [h1]
  simp at this ⊢
  omega
def ja:Nat->List (List Nat)
 | 0=>[[]]
 | n+1=>(ja n).map (· ++ [0])++((ja n).map (· ++ [1])++(ja n).map (· ++ [2]))
theorem xY (n:Nat):(ja n).length=3 ^ n:=by
 induction n with
 | zero=>rfl
 | succ n ih=>simp [ja,ih,Nat.pow_succ];omega
theorem pD (T:Nat->Nat)(h:∀i,T i<3):∀n,(List.range n).map T∈ja n
 | 0=>by simp [ja]
 | n+1=>by
  rw [List.range_succ,List.map_append,List.map_singleton]
  have ih:=pD T h n
  have:=h n
  simp only [ja,List.mem_append,List.mem_map]
  have h3:T n=0\/T n=1\/T n=2:=by omega
  rcases h3 with e | e | e
  . exact .inl ⟨_,ih,by rw [e]⟩
  . exact .inr (.inl ⟨_,ih,by rw [e]⟩)
  . exact .inr (.inr ⟨_,ih,by rw [e]⟩)
def bT:Nat->(Nat->Nat)->Nat
 | 0,_=>0
 | n+1,T=>bT n T ||| (if T n=0 then 0 else 1 <<< n)
theorem jQ (T:Nat->Nat)(i:Nat):∀n,(bT n T).testBit i=(decide (i<n)&&decide (T i≠0))
 | 0=>by simp [bT]
 | n+1=>by
  simp only [bT]
  rw [Nat.testBit_or,jQ T i n]
  by_cases e:i=n
  . subst e
    by_cases h:T i=0<;>simp [h,Nat.one_shiftLeft,Nat.testBit_two_pow]
  . have h1:(decide (i<n+1))=decide (i<n):=decide_eq_decide.mpr (by omega)
    rw [h1]
    have h2:¬n=i:=fun z=>e z.symm
    by_cases h:T n=0<;>simp [h,Nat.one_shiftLeft,Nat.testBit_two_pow,h2]
def dJ (x:Rt):Option Nat:=match x.1.dd with
 | .tup [.str _,.int c,_]=>some c.toNat
 | _=>none
def zi (x:Rt):D:=match x.1.dd with
 | .tup [.str _,.int _,v]=>v
 | _=>.non
theorem xA {p:Int}{x:Rt}{st:List D}(h:dQ p x.1.dd)(hl:(st.length:Int)=p):cj st x.1.dd=match dJ x with | some c=>st.set c (zi x) | none=>st:=by
 rcases h with e | ⟨c,v,e,c0,c1,_⟩
 . simp [dJ,e,cj]
 . have hc:c.toNat<st.length:=by omega
   simp only [dJ,zi,e,cj]
   rw [List.set_eq_take_append_cons_drop,if_pos hc]
def nU (xs:List Rt)(T:Nat->Nat)(c:Nat):D:=match(List.range xs.length).find? (fun k=>T k == 2&&dJ (av xs k) == some c) with
 | some k=>zi (av xs k)
 | none=>.int 0
def oq (p:Int)(xs:List Rt)(T:Nat->Nat):List D:=(List.range p.toNat).map (nU xs T)
def eG (xs:List Rt)(T:Nat->Nat)(k i:Nat):Nat:=if i=k then(if(dJ (av xs k)).isSome then 2 else 1) else if T i=2/\dJ (av xs i)=dJ (av xs k) then 1 else T i
theorem qp {xs:List Rt}{T:Nat->Nat}{k:Nat}(hk:k<xs.length)(c:Nat):nU xs (eG xs T k) c=if dJ (av xs k)=some c then zi (av xs k) else nU xs T c:=by
 unfold nU
 by_cases h:dJ (av xs k)=some c
 . rw [if_pos h]
   have:(List.range xs.length).find? (fun i=>eG xs T k i == 2&&dJ (av xs i) == some c)=some k:=by
    have hi:∀i,(eG xs T k i == 2&&dJ (av xs i) == some c)=true ↔ i=k:=fun i=>by
      unfold eG
      by_cases e:i=k
      . subst e;simp [h]
      . simp only [e,if_false,iff_false,Bool.not_eq_true,Bool.and_eq_false_iff]
        by_cases h2:T i=2/\dJ (av xs i)=dJ (av xs k)
        . rw [if_pos h2];exact .inl rfl
        . rw [if_neg h2]
          by_cases h3:T i=2
          . refine .inr ?_
            simp only [h] at h2
            simp
            exact fun z=>h2 ⟨h3,z⟩
          . refine .inl ?_;simp [h3]
    cases hf:(List.range xs.length).find? (fun i=>eG xs T k i == 2&&dJ (av xs i) == some c) with
    | none =>
      rw [List.find?_eq_none] at hf
      exact absurd ((hi k).mpr rfl) (hf k (List.mem_range.mpr hk))
    | some j =>
      have:=List.find?_some hf
      rw [(hi j).mp this]
   rw [this]
 . rw [if_neg h]
   have:∀i,(eG xs T k i == 2&&dJ (av xs i) == some c)=(T i == 2&&dJ (av xs i) == some c):=fun i=>by
    by_cases h2:dJ (av xs i)=some c
    . simp only [h2,beq_self_eq_true,Bool.and_true]
      unfold eG
      by_cases e:i=k
      . subst e;exact absurd h2 h
      . rw [if_neg e,if_neg]
        intro z
        rw [h2] at z
        exact h z.2.symm
    . have:(dJ (av xs i) == some c)=false:=by simpa using h2
      simp [this]
   simp only [this]
theorem Path.tags {xs:List Rt}{p:Int}{ks:List Nat}{r:aC}(p0:0<=p)(hx:∀x∈xs,bx p x)(h:Path xs p ks r):∃T:Nat->Nat,(∀i,T i<3)/\r.1=bT xs.length T/\r.2=oq p xs T:=by
 induction h with
 | nil =>
  refine⟨fun _=>0,fun _=>by show 0<3;omega,?_,?_⟩
  . refine Nat.eq_of_testBit_eq fun i=>?_
    rw [jQ];simp
  . unfold oq zs
    refine List.ext_getElem (by simp) fun i h1 h2=>?_
    have e:(List.range xs.length).find? (fun _=>false)=none:=by rw [List.find?_eq_none];intro _ _;simp
    simp [nU,e]
 | @snoc ks r k h hk hc ih =>
  obtain⟨T,h1,h2,h3⟩:=ih
  refine⟨eG xs T k,fun i=>?_,?_,?_⟩
  . unfold eG
    have:=h1 i
    split
    . split<;>omega
    . split<;>omega
  . refine Nat.eq_of_testBit_eq fun i=>?_
    rw [nA,h2,jQ,jQ]
    unfold eG
    by_cases e:i=k
    . subst e
      have:(if(dJ (av xs i)).isSome=true then 2 else 1)≠0:=by split<;>omega
      simp [hk,this]
    . simp only [e,if_false,decide_false,Bool.or_false]
      congr 1
      refine decide_eq_decide.mpr ?_
      split<;>omega
  . have hd:=(hx _ (cq hk)).r.dd
    have hl:(r.2.length:Int)=p:=by rw [h3];simp [oq];omega
    show cj r.2 (av xs k).1.dd=_
    rw [xA hd hl,h3]
    unfold oq
    cases hp:dJ (av xs k) with
    | none =>
      refine List.map_congr_left fun c _=>?_
      rw [qp hk,hp]
      simp
    | some c0 =>
      refine List.ext_getElem (by simp) fun i a b=>?_
      simp only [List.getElem_set,List.getElem_map,List.getElem_range]
      rw [qp hk,hp]
      by_cases e:c0=i
      . subst e;simp
      . simp [e]
theorem wy {xs:List Rt}{T U:Nat->Nat}(h:∀i<xs.length,T i=U i)(c:Nat):nU xs T c=nU xs U c:=by
 unfold nU
 have:(List.range xs.length).find? (fun k=>T k == 2&&dJ (av xs k) == some c)=(List.range xs.length).find? (fun k=>U k == 2&&dJ (av xs k) == some c):=by
  have:∀l:List Nat,(∀i∈l,i<xs.length)->l.find? (fun k=>T k == 2&&dJ (av xs k) == some c)=l.find? (fun k=>U k == 2&&dJ (av xs k) == some c):=fun l=>by
   induction l with
   | nil=>intro _;rfl
   | cons i l ih =>
    intro hl
    simp only [List.find?_cons,h i (hl i (by simp)),ih fun j hj=>hl j (by simp [hj])]
  exact this _ fun i hi=>List.mem_range.mp hi
 rw [this]
theorem qf {T U:Nat->Nat}:∀n,(∀i<n,T i=U i)->bT n T=bT n U
 | 0,_=>rfl
 | n+1,h=>by simp only [bT];rw [qf n fun i hi=>h i (by omega),h n (by omega)]
def zv (p:Int)(xs:List Rt)(l:List Nat):aC:=(bT xs.length fun i=>l.getD i 0,oq p xs fun i=>l.getD i 0)
theorem pX {xs:List Rt}{p:Int}(p0:0<=p)(hx:∀x∈xs,bx p x){V:List aC}(hn:V.Nodup)(hV:∀r∈V,∃ks,Path xs p ks r):V.length<=3 ^ xs.length:=by
 have:=qx (W:=(ja xs.length).map (zv p xs)) hn fun r hr=>by
  obtain⟨ks,h⟩:=hV r hr
  obtain⟨T,h1,h2,h3⟩:=h.tags p0 hx
  refine List.mem_map.mpr ⟨_,pD T h1 xs.length,?_⟩
  have e:∀i<xs.length,((List.range xs.length).map T).getD i 0=T i:=fun i hi=>by simp [hi]
  unfold zv
  rw [qf _ e,<- h2]
  have:oq p xs (fun i=>((List.range xs.length).map T).getD i 0)=oq p xs T:=by
   unfold oq
   exact List.map_congr_left fun c _=>wy e c
  rw [this,<- h3]
 rwa [List.length_map,xY] at this
theorem i9 (a b:Nat):Builtin.bitAnd (a:Int) (b:Int)=((a &&& b:Nat):Int):=by
 have h1:decide ((0:Int)<=(a:Int))=true:=by simp
 have h2:decide ((0:Int)<=(b:Int))=true:=by simp
 unfold Builtin.bitAnd
 rw [h1,h2]
 simp
theorem zW (a b:Nat):Builtin.bitOr (a:Int) (b:Int)=((a ||| b:Nat):Int):=by
 have e:∀x:Nat,(Builtin.bitNot (Builtin.bitNot (x:Int))).toNat=x:=fun x=>by unfold Builtin.bitNot;omega
 have h1:∀x:Nat,decide ((0:Int)<=Builtin.bitNot (x:Int))=false:=fun x=>by unfold Builtin.bitNot;simp;omega
 unfold Builtin.bitOr
 have:Builtin.bitAnd (Builtin.bitNot (a:Int)) (Builtin.bitNot (b:Int))=Builtin.bitNot (((a ||| b:Nat):Nat):Int):=by
  unfold Builtin.bitAnd
  rw [h1,h1,e,e]
 rw [this]
 unfold Builtin.bitNot
 omega
def bF (n:Nat)(f:Nat->Bool):Nat:=bT n fun i=>if f i then 1 else 0
theorem oZ (f:Nat->Bool)(i n:Nat):(bF n f).testBit i=(decide (i<n)&&f i):=by
 unfold bF
 rw [jQ]
 cases f i<;>simp
theorem Gw (f:Nat->Bool)(n:Nat):bF n f<2 ^ n:=Nat.lt_pow_two_of_testBit _ fun i hi=>by
 rw [oZ]
 have:¬i<n:=by omega
 simp [this]
theorem ll (f:Nat->Bool):∀n,((((List.range n).filter f).map fun k=>(2:Nat) ^ k).sum)=bF n f
 | 0=>rfl
 | n+1=>by
  rw [List.range_succ,List.filter_append,List.map_append,List.sum_append,ll f n]
  have hl:=Gw f n
  have e:bF (n+1) f=bF n f ||| (if f n then 1 <<< n else 0):=by
   unfold bF
   simp only [bT]
   by_cases hfn:f n=true<;>simp [hfn]
  rw [e]
  cases hf:f n with
  | false=>simp [hf]
  | true =>
   have:=Nat.two_pow_add_eq_or_of_lt hl 1
   simp only [Nat.mul_one] at this
   rw [Nat.one_shiftLeft]
   simp [hf]
   rw [Nat.add_comm,this,Nat.or_comm]
theorem mV (b k:Nat):(b &&& 2 ^ k=0) ↔ b.testBit k=false:=by
 constructor
 . intro h
   have:=congrArg (fun x=>x.testBit k) h
   simpa [Nat.testBit_and,Nat.testBit_two_pow] using this
 . intro h
   refine Nat.eq_of_testBit_eq fun i=>?_
   rw [Nat.testBit_and,Nat.testBit_two_pow]
   by_cases e:k=i
   . subst e;simp [h]
   . simp [e]
theorem Bw (a b:Nat):(b &&& a=a) ↔ ∀i,a.testBit i=true->b.testBit i=true:=by
 constructor
 . intro h i hi
   rw [<- h,Nat.testBit_and] at hi
   simp at hi
   exact hi.1
 . intro h
   refine Nat.eq_of_testBit_eq fun i=>?_
   rw [Nat.testBit_and]
   cases hi:a.testBit i with
   | false=>simp
   | true=>simp [h i hi]
theorem w4 (f:Nat->Bool)(b n:Nat):(b &&& bF n f=bF n f) ↔ ((List.range n).filter f).all (fun i=>b.testBit i)=true:=by
 rw [Bw,List.all_eq_true]
 constructor
 . intro h i hi
   obtain⟨h1,h2⟩:=List.mem_filter.mp hi
   exact h i (by rw [oZ];simp [List.mem_range.mp h1,h2])
 . intro h i hi
   rw [oZ] at hi
   simp at hi
   exact h i (List.mem_filter.mpr ⟨List.mem_range.mpr hi.1,hi.2⟩)
def wN:FS:=aQ (au i7 (af (bU bB (b_ (aa 0)) [none,none] (gN 1) bC (aj (aY cu (fun i j=>i*2 ^ j.toNat)) (fC (.int 1)) (aa 1))) ao))
def qv (bits:Fn):FS:=aQ (au bits (af (bU bB (cY (aa 0)) [none,none,none] (gT 2 (aq (gN 1) (aq (gN 2) aK))) (az (aj bO (aj aw (aa 2) (fC (.int 3))) (fC .non))) (aa 1)) ao))
theorem pK {k:Nat}(h:k<=1000):cu 1 (k:Int)=true:=by
 show(Nat.ble k 1000000&&Nat.ble (1:Int).natAbs 18446744073709551615)=true
 rw [Nat.ble_eq.mpr (by omega:k<=1000000)]
 decide
theorem yI (ks:List Nat):(ks.map fun k=>((2 ^ k:Nat):Int)).sum=(((ks.map fun k=>2 ^ k).sum:Nat):Int):=by
 induction ks with
 | nil=>rfl
 | cons k ks ih=>simp only [List.map_cons,List.sum_cons,ih];omega
def jN (f:Fn):Prop:=∀ks g,(∀k∈ks,k<=1000)->ks.length<=1000->f [.lst (kD ks)] g=some (.int (((ks.map fun k=>2 ^ k).sum:Nat):Int),g)
theorem Bp:jN (aJ false 1 1 wN):=fun ks g hk hl=>by
 refine dE (σ':=[some (.lst (kD ks))]) rfl ?_ rfl
 have hz:aF ks.length=true:=aL (by omega)
 have kl:(kD ks).length=ks.length:=by simp [kD]
 have c1:=fD (f:=fun(i:Nat)=>D.int i) (t:=gN 1) (c:=bC) (e:=aj (aY cu (fun i j=>i*2 ^ j.toNat)) (fC (.int 1)) (aa 1)) (h:=fun(i:Nat)=>D.int ((2 ^ i:Nat):Int)) (fun σ=>∃a,σ = [none,a]) ks [none,none] g ⟨_,rfl⟩ (by
  rintro i hm σ ⟨a,rfl⟩
  refine⟨[none,some (.int i)],by simp,by simp,?_,⟨_,rfl⟩⟩
  have:=pK (hk i hm)
  simp [aY,this])
 have c2:bW (gN 1) bC (aj (aY cu (fun i j=>i*2 ^ j.toNat)) (fC (.int 1)) (aa 1)) (kD ks) [none,none] g=some ((ks.map fun k=>((2 ^ k:Nat):Int)).map D.int,g):=by rw [List.map_map];exact c1
 have sb:∀σ:Sg,bu [none,none] σ = [none,none]:=fun _=>rfl
 have i1:=n_ (ks.map fun k=>((2 ^ k:Nat):Int))
 rw [<- yI]
 generalize (ks.map fun k=>((2 ^ k:Nat):Int))=ns at *
 simp [wN,sb,c2,kl,hz,i1]
theorem t7 {f:Rt->Bool}(xs:List Rt):(xs.zipIdx.filter fun y=>f y.1).map (·.2)=(List.range xs.length).filter fun i=>f (av xs i):=by
 have:xs.zipIdx=(List.range xs.length).map fun i=>(av xs i,i):=by
  refine List.ext_getElem (by simp) fun i h1 h2=>?_
  have hi:i<xs.length:=by simpa using h1
  simp [av,hi]
 rw [this,List.filter_map,List.map_map]
 simp [Function.comp_def]
def i8 (xs:List Rt):Nat:=bF xs.length fun i=>(av xs i).1.e.isSome
def uk (f:Fn):Prop:=∀xs g,xs.length<=100->f [.tup (xs.map rt)] g=some (.int (i8 xs),g)
theorem ET {b:Fn}(hb:jN b):uk (aJ false 1 1 (qv b)):=fun xs g hl=>by
 refine dE (σ':=[some (.tup (xs.map rt))]) rfl ?_ rfl
 have hz:aF (b5 (xs.map rt)).length=true:=aL (by simp [b5];omega)
 have c1:=eX (f:=fun y:Rt×Nat=>.tup [.int (y.2:Nat),rt y.1]) (t:=gT 2 (aq (gN 1) (aq (gN 2) aK))) (c:=az (aj bO (aj aw (aa 2) (fC (.int 3))) (fC .non))) (e:=aa 1) (cB:=fun y=>y.1.1.e.isSome) (h:=fun y=>D.int (y.2:Nat)) (fun σ=>∃a b,σ = [none,a,b]) xs.zipIdx [none,none,none] g ⟨_,_,rfl⟩ (by
  rintro⟨y,i⟩ hm σ ⟨a,b,rfl⟩
  refine⟨[none,some (.int i),some (rt y)],by simp,?_,fun _=>by simp,⟨_,_,rfl⟩⟩
  cases he:y.1.e<;>simp [rt,mL,he,eD,isLit,cx])
 rw [<- kz] at c1
 have sb:∀σ:Sg,bu [none,none,none] σ = [none,none,none]:=fun _=>rfl
 have e2:(xs.zipIdx.filter fun y=>y.1.1.e.isSome).map (fun y=>D.int (y.2:Nat))=kD ((List.range xs.length).filter fun i=>(av xs i).1.e.isSome):=by
  rw [<- t7 (f:=fun x=>x.1.e.isSome)]
  simp [kD,Function.comp_def]
 rw [e2] at c1
 have hb1:=hb ((List.range xs.length).filter fun i=>(av xs i).1.e.isSome) g (fun k hk=>by
  have:=List.mem_range.mp (List.mem_filter.mp hk).1
  omega) (by have:=List.length_filter_le (fun i=>(av xs i).1.e.isSome) (List.range xs.length);simp at this;omega)
 rw [ll] at hb1
 generalize kD ((List.range xs.length).filter fun i=>(av xs i).1.e.isSome)=kk at *
 simp [qv,sb,c1,hz,hb1,i8]
theorem AF (xs:List Rt)(b:Nat):(b &&& i8 xs=i8 xs) ↔ dw xs b=true:=by
 unfold i8
 rw [w4]
 unfold dw
 have:xs.zipIdx=(List.range xs.length).map fun i=>(av xs i,i):=by
  refine List.ext_getElem (by simp) fun i h1 h2=>?_
  have hi:i<xs.length:=by simpa using h1
  simp [av,hi]
 rw [this,List.all_filter,List.all_map]
 have e:(fun i=>!(av xs i).1.e.isSome||b.testBit i)=((fun y:Rt×Nat=>y.1.1.e.isNone||b.testBit y.2) ∘ fun i=>(av xs i,i)):=by
  funext i
  cases h:(av xs i).1.e<;>simp [h]
 rw [e]
def rD (r:aC):D:=.tup [.int (r.1:Nat),.tup r.2]
def eU (xs:List Rt)(i:Nat):D:=.tup [.int (i:Nat),.int ((bF xs.length fun o=>cX (av xs o) (av xs i):Nat):Int),rt (av xs i)]
def d5 (xs:List Rt):List D:=(List.range xs.length).map (eU xs)
def zq (ahead:Fn):FS:=aA (bU bB (cY (aa 0)) [none,none,none,some 3] (gT 2 (aq (gN 1) (aq (gN 2) aK))) (dg (au ahead (af (aa 2) (af (aa 3) ao)))) (aa 1)) (gN 4)
def zQ (bits:Fn):FS:=cc (bX isRef bG (aa 1) (af (aG aD (af (aa 2) (af (au bits (af (aa 4) ao)) (af (aa 3) ao)))) ao))
def lX (ahead bits:Fn):FS:=ax (aA (aG mkRef ao) (gN 1)) (ax (cI (cY (aa 0)) (gT 2 (aq (gN 2) (aq (gN 3) aK))) (ax (zq ahead) (zQ bits))) (aQ (aa 1)))
theorem uT (xs:List Rt):xs.zipIdx=(List.range xs.length).map fun i=>(av xs i,i):=by
 refine List.ext_getElem (by simp) fun i h1 h2=>?_
 have hi:i<xs.length:=by simpa using h1
 simp [av,hi]
theorem kB (xs:List Rt):b5 (xs.map rt)=(List.range xs.length).map fun i=>.tup [.int (i:Nat),rt (av xs i)]:=by
 rw [kz,uT,List.map_map]
 rfl
theorem D6 {ah:Fn}{p:Int}(ha:iU p ah){xs:List Rt}{g:G}{o1 o2 o4:Option D}(hx:∀x∈xs,bx p x)(hl:xs.length<=100){k:Nat}(hk:k<xs.length) :
  zq ah [some (.tup (xs.map rt)),o1,o2,some (rt (av xs k)),o4] g=some (.nx,[some (.tup (xs.map rt)),o1,o2,some (rt (av xs k)),some (.lst (kD (early xs k)))],g):=by
 have hz:aF (b5 (xs.map rt)).length=true:=aL (by simp [b5];omega)
 have c1:=eX (f:=fun i:Nat=>.tup [.int (i:Nat),rt (av xs i)]) (t:=gT 2 (aq (gN 1) (aq (gN 2) aK))) (c:=dg (au ah (af (aa 2) (af (aa 3) ao)))) (e:=aa 1) (cB:=fun i=>cX (av xs i) (av xs k)) (h:=fun(i:Nat)=>D.int i) (fun σ=>∃a b,σ = [none,a,b,some (rt (av xs k))]) (List.range xs.length) [none,none,none,some (rt (av xs k))] g ⟨_,_,rfl⟩ (by
  rintro i hm σ ⟨a,b,rfl⟩
  have:=ha (rt (av xs i)) (rt (av xs k)) g (hx _ (cq (List.mem_range.mp hm))).row (hx _ (cq hk)).row
  refine⟨[none,some (.int i),some (rt (av xs i)),some (rt (av xs k))],by simp,?_,fun _=>by simp,⟨_,_,rfl⟩⟩
  simp [this,cX])
 rw [<- kB] at c1
 have sb:∀a b c:Option D,bu [none,none,none,some 3] [a,b,c,some (rt (av xs k)),o4] = [none,none,none,some (rt (av xs k))]:=fun _ _ _=>rfl
 have c2:bW (gT 2 (aq (gN 1) (aq (gN 2) aK))) (dg (au ah (af (aa 2) (af (aa 3) ao)))) (aa 1) (b5 (xs.map rt)) [none,none,none,some (rt (av xs k))] g=some (kD (early xs k),g):=c1
 simp [zq,sb,c2,hz]
theorem zP {ah bi:Fn}{p:Int}(ha:iU p ah)(hb:jN bi){xs:List Rt}{g:G}(hx:∀x∈xs,bx p x)(hl:xs.length<=100):∀(rest:List Nat) (acc:List D) (o2 o3 o4:Option D),(∀k∈rest,k<xs.length)->acc.length+rest.length<=200 ->
  ∃σ',σ'[1]? = some (some (.ref g.length))/\forL (gT 2 (aq (gN 2) (aq (gN 3) aK))) (ax (zq ah) (zQ bi)) (rest.map fun i=>.tup [.int (i:Nat),rt (av xs i)]) [some (.tup (xs.map rt)),some (.ref g.length),o2,o3,o4] (g ++ [acc])=some (.nx,σ',g ++ [acc++rest.map (eU xs)])
 | [],acc,o2,o3,o4,_,_=>⟨[some (.tup (xs.map rt)),some (.ref g.length),o2,o3,o4],rfl,by simp [forL]⟩
 | k::rest,acc,o2,o3,o4,h,hs=>by
  have hk:=h k (by simp)
  have e1:=D6 ha (g:=g ++ [acc]) (o1:=some (.ref g.length)) (o2:=some (.int k)) (o4:=o4) hx hl hk
  have hll:(early xs k).length<=100:=by
   have:=List.length_filter_le (fun o=>cX (av xs o) (av xs k)) (List.range xs.length)
   simp at this
   unfold early
   omega
  have e2:=hb (early xs k) (g ++ [acc]) (fun j hj=>by
   have:=List.mem_range.mp (List.mem_filter.mp hj).1
   omega) (by omega)
  have e3:((early xs k).map fun k=>2 ^ k).sum=bF xs.length fun o=>cX (av xs o) (av xs k):=ll _ _
  rw [e3] at e2
  have hz:aF (acc.length+1)=true:=aL (by simp at hs;omega)
  obtain⟨σ',s1,ih⟩:=zP ha hb (g:=g) hx hl rest (acc ++ [eU xs k]) (some (.int k)) (some (rt (av xs k))) (some (.lst (kD (early xs k)))) (fun j hj=>h j (by simp [hj])) (by simp at hs ⊢;omega)
  refine⟨σ',s1,?_⟩
  have e4:zQ bi [some (.tup (xs.map rt)),some (.ref g.length),some (.int k),some (rt (av xs k)),some (.lst (kD (early xs k)))] (g ++ [acc])=some (.nx,[some (.tup (xs.map rt)),some (.ref g.length),some (.int k),some (rt (av xs k)),some (.lst (kD (early xs k)))],g ++ [acc ++ [eU xs k]]):=by
   simp [zQ,e2,hz,eU]
  rw [show acc++(k::rest).map (eU xs)=(acc ++ [eU xs k])++rest.map (eU xs) by simp,<- ih]
  simp [forL,e1,e4]
def pS (p:Int)(f:Fn):Prop:=∀xs g,(∀x∈xs,bx p x)->xs.length<=100->Clean g->f [.tup (xs.map rt)] g=some (.lst (d5 xs),g)
theorem A5 {ah bi:Fn}{p:Int}(ha:iU p ah)(hb:jN bi):pS p (aJ false 5 1 (lX ah bi)):=fun xs g hx hl hc=>by
 have key:wp (aJ false 5 1 (lX ah bi) [.tup (xs.map rt)] g) fun r=>r=(.lst (d5 xs),g):=by
  refine j7 rfl ?_
  obtain⟨σ',s1,e⟩:=zP ha hb (g:=g) hx hl (List.range xs.length) [] none none none (fun k hk=>List.mem_range.mp hk) (by simp;omega)
  rw [<- kB,List.nil_append] at e
  have e':lX ah bi [some (.tup (xs.map rt)),none,none,none,none] g=some (.rt (.ref g.length),σ',g ++ [d5 xs]):=by
   simp [lX,e,s1,d5]
  refine⟨_,e',g.length,d5 xs,rfl,Nat.le_refl _,by simp,cg fun d hd=>?_,by simpa using hc.all _,by simp⟩
  obtain⟨k,hk,rfl⟩:=List.mem_map.mp hd
  have:=bx.bp (hx _ (cq (List.mem_range.mp hk))) g.length
  simp [eU,bp,aT,this]
 obtain⟨r,e,rfl⟩:=key
 exact e
def vc:FS:=aA (aj (aY cu (fun i j=>i*2 ^ j.toNat)) (fC (.int 1)) (aa 4)) (gN 7)
def pT (fits:Fn):FT:=cL (az (aj oEq (aj (aY bQ Builtin.bitAnd) (aa 1) (aa 7)) (fC (.int 0)))) (cL (az (aj oEq (aj (aY bQ Builtin.bitAnd) (aa 1) (aa 5)) (aa 5))) (dg (au fits (af (aa 6) (af (aa 2) ao)))))
def vp (behind:Fn):FS:=cc (bX isRef bG (aa 3) (af (aG aD (af (aa 4) (af (aG aD (af (aj (aY bQ Builtin.bitOr) (aa 1) (aa 7)) (af (au behind (af (aa 6) (af (aa 2) ao))) ao))) ao))) ao))
def kA (fits behind:Fn):FS:=ax (aA (aG mkRef ao) (gN 3)) (ax (cI (b_ (aa 0)) (gT 3 (aq (gN 4) (aq (gN 5) (aq (gN 6) aK)))) (ax vc (bH (pT fits) (vp behind) aR))) (aQ (aa 3)))
def iI (xs:List Rt)(r:aC)(k:Nat):D:=.tup [.int (k:Nat),rD (bA xs r k)]
def pG (xs:List Rt)(r:aC):List D:=((List.range xs.length).filter (cb xs r)).map (iI xs r)
abbrev S8 (xs:List Rt)(r:aC)(m:Nat)(o4 o5 o6 o7:Option D):Sg:=[some (.lst (d5 xs)),some (.int (r.1:Nat)),some (.tup r.2),some (.ref m),o4,o5,o6,o7]
theorem EU {xs:List Rt}{r:aC}{m k:Nat}{g:G}{o5 o6 o7:Option D}(hk:k<=1000):vc (S8 xs r m (some (.int k)) o5 o6 o7) g=some (.nx,S8 xs r m (some (.int k)) o5 o6 (some (.int ((2 ^ k:Nat):Int))),g):=by
 have:=pK hk
 simp [vc,aY,this]
theorem Dh {fi:Fn}{p:Int}(hf:jD p fi){xs:List Rt}{r:aC}{m k:Nat}{g:G}(hx:∀x∈xs,bx p x)(hs:St p r.2)(hk:k<xs.length) :
  pT fi (S8 xs r m (some (.int k)) (some (.int ((bF xs.length fun o=>cX (av xs o) (av xs k):Nat):Int))) (some (rt (av xs k))) (some (.int ((2 ^ k:Nat):Int)))) g=some (cb xs r k,g):=by
 have e1:=hf (av xs k) r.2 g (hx _ (cq hk)) hs
 have a1:=i9 r.1 (2 ^ k)
 have a2:=i9 r.1 (bF xs.length fun o=>cX (av xs o) (av xs k))
 have c1:decide (((r.1 &&& 2 ^ k:Nat):Int)=0) = !r.1.testBit k:=by
  cases h:r.1.testBit k with
  | false=>have:=(mV r.1 k).mpr h;rw [this];rfl
  | true =>
   simp only [Bool.not_true,decide_eq_false_iff_not]
   intro z
   have z':r.1 &&& 2 ^ k=0:=by omega
   rw [(mV r.1 k).mp z'] at h
   cases h
 have c2:decide (((r.1 &&& (bF xs.length fun o=>cX (av xs o) (av xs k)):Nat):Int)=((bF xs.length fun o=>cX (av xs o) (av xs k):Nat):Int))=((early xs k).all fun o=>r.1.testBit o):=by
  have:=w4 (fun o=>cX (av xs o) (av xs k)) r.1 xs.length
  cases h:((early xs k).all fun o=>r.1.testBit o) with
  | true =>
   have:=this.mpr h
   rw [this];simp
  | false =>
   simp only [decide_eq_false_iff_not]
   intro z
   have z':r.1 &&& (bF xs.length fun o=>cX (av xs o) (av xs k))=bF xs.length fun o=>cX (av xs o) (av xs k):=by omega
   rw [show(early xs k).all (fun o=>r.1.testBit o)=true from this.mp z'] at h
   cases h
 generalize (bF xs.length fun o=>cX (av xs o) (av xs k))=bb at *
 have q1:oEq (.int ((r.1 &&& 2 ^ k:Nat):Int)) (.int 0) g=some (.bl (!r.1.testBit k),g):=by
  unfold oEq
  rw [eJ,c1]
  simp [flat,dep]
 have q2:oEq (.int ((r.1 &&& bb:Nat):Int)) (.int (bb:Int)) g=some (.bl ((early xs k).all fun o=>r.1.testBit o),g):=by
  unfold oEq
  rw [eJ,c2]
  simp [flat,dep]
 unfold cb
 generalize ((early xs k).all fun o=>r.1.testBit o)=b2 at *
 generalize (r.1 &&& bb)=ab at *
 generalize (r.1 &&& 2 ^ k)=ak at *
 generalize 2 ^ k=tk at *
 cases h1:r.1.testBit k with
 | true=>rw [h1] at q1;simp [pT,aY,bQ,a1,q1]
 | false =>
  rw [h1] at q1
  cases b2 with
  | false =>
   have c2':=of_decide_eq_false c2
   simp [pT,aY,bQ,a1,q1,a2,c2']
  | true =>
   have c2':=of_decide_eq_true c2
   cases h3:fH (av xs k) r.2<;>rw [h3] at e1<;>simp [pT,aY,bQ,a1,q1,a2,c2',e1]
theorem ub {fi be:Fn}{p:Int}(hf:jD p fi)(hb:iX p be){xs:List Rt}{r:aC}{g:G}(hx:∀x∈xs,bx p x)(hl:xs.length<=100)(hs:St p r.2):∀(rest:List Nat) (acc:List D) (o4 o5 o6 o7:Option D),(∀k∈rest,k<xs.length)->acc.length+rest.length<=200 ->
  ∃σ',σ'[3]? = some (some (.ref g.length))/\forL (gT 3 (aq (gN 4) (aq (gN 5) (aq (gN 6) aK)))) (ax vc (bH (pT fi) (vp be) aR)) (rest.map (eU xs)) (S8 xs r g.length o4 o5 o6 o7) (g ++ [acc])=some (.nx,σ',g ++ [acc++(rest.filter (cb xs r)).map (iI xs r)])
 | [],acc,o4,o5,o6,o7,_,_=>⟨S8 xs r g.length o4 o5 o6 o7,rfl,by simp [forL]⟩
 | k::rest,acc,o4,o5,o6,o7,h,hsz=>by
  have hk:=h k (by simp)
  have e1:=EU (xs:=xs) (r:=r) (m:=g.length) (g:=g ++ [acc]) (o5:=some (.int ((bF xs.length fun o=>cX (av xs o) (av xs k):Nat):Int))) (o6:=some (rt (av xs k))) (o7:=o7) (show k<=1000 by omega)
  have e2:=Dh hf (m:=g.length) (g:=g ++ [acc]) hx hs hk
  have e3:=hb (av xs k) r.2 (g ++ [acc]) (hx _ (cq hk)) hs
  have hz:aF (acc.length+1)=true:=aL (by simp at hsz;omega)
  have bo:=zW r.1 (2 ^ k)
  have tg:gT 3 (aq (gN 4) (aq (gN 5) (aq (gN 6) aK))) (eU xs k) (S8 xs r g.length o4 o5 o6 o7) (g ++ [acc])=some (S8 xs r g.length (some (.int k)) (some (.int ((bF xs.length fun o=>cX (av xs o) (av xs k):Nat):Int))) (some (rt (av xs k))) o7,g ++ [acc]):=by
   simp [eU]
  generalize hbb:(bF xs.length fun o=>cX (av xs o) (av xs k))=bb at *
  cases hc:cb xs r k with
  | false =>
   rw [hc] at e2
   obtain⟨σ',s1,ih⟩:=ub hf hb (g:=g) hx hl hs rest acc (some (.int k)) (some (.int (bb:Int))) (some (rt (av xs k))) (some (.int ((2 ^ k:Nat):Int))) (fun j hj=>h j (by simp [hj])) (by simp at hsz;omega)
   refine⟨σ',s1,?_⟩
   rw [List.filter_cons,hc,if_neg (by simp),<- ih,List.map_cons]
   simp only [forL,tg,Option.bind_some,dy,e1,iR,e2]
   simp
  | true =>
   rw [hc] at e2
   obtain⟨σ',s1,ih⟩:=ub hf hb (g:=g) hx hl hs rest (acc ++ [iI xs r k]) (some (.int k)) (some (.int (bb:Int))) (some (rt (av xs k))) (some (.int ((2 ^ k:Nat):Int))) (fun j hj=>h j (by simp [hj])) (by simp at hsz ⊢;omega)
   refine⟨σ',s1,?_⟩
   have e4:vp be (S8 xs r g.length (some (.int k)) (some (.int (bb:Int))) (some (rt (av xs k))) (some (.int ((2 ^ k:Nat):Int)))) (g ++ [acc])=some (.nx,S8 xs r g.length (some (.int k)) (some (.int (bb:Int))) (some (rt (av xs k))) (some (.int ((2 ^ k:Nat):Int))),g ++ [acc ++ [iI xs r k]]):=by
    generalize h2k:2 ^ k=tk at *
    have ey:iI xs r k = .tup [.int (k:Nat),.tup [.int ((r.1 ||| tk:Nat):Int),.tup (cj r.2 (av xs k).1.dd)]]:=by
     simp [iI,rD,bA,Nat.one_shiftLeft,h2k]
    rw [ey]
    simp [vp,aY,bQ,bo,e3,hz]
   rw [List.filter_cons,hc,if_pos rfl,show acc++(k::rest.filter (cb xs r)).map (iI xs r)=(acc ++ [iI xs r k])++(rest.filter (cb xs r)).map (iI xs r) by simp,<- ih,List.map_cons]
   simp only [forL,tg,Option.bind_some,dy,e1,iR,e2,e4]
   simp [e4]
def j8 (p:Int)(f:Fn):Prop:=∀xs r g,(∀x∈xs,bx p x)->xs.length<=100->St p r.2->Clean g->f [.lst (d5 xs),.int (r.1:Nat),.tup r.2] g=some (.lst (pG xs r),g)
theorem qz {p:Int}{st:List D}(h:St p st)(n:Nat):bp n (.tup st)=true:=(ml (St.B h)).2 n
theorem xK {fi be:Fn}{p:Int}(hf:jD p fi)(hb:iX p be):j8 p (aJ false 8 3 (kA fi be)):=fun xs r g hx hl hs hc=>by
 have key:wp (aJ false 8 3 (kA fi be) [.lst (d5 xs),.int (r.1:Nat),.tup r.2] g) fun q=>q=(.lst (pG xs r),g):=by
  refine j7 rfl ?_
  obtain⟨σ',s1,e⟩:=ub hf hb (g:=g) hx hl hs (List.range xs.length) [] none none none none (fun k hk=>List.mem_range.mp hk) (by simp;omega)
  rw [List.nil_append] at e
  have e0:forL (gT 3 (aq (gN 4) (aq (gN 5) (aq (gN 6) aK)))) (ax vc (bH (pT fi) (vp be) aR)) (d5 xs) [some (.lst (d5 xs)),some (.int (r.1:Nat)),some (.tup r.2),some (.ref g.length),none,none,none,none] (g ++ [[]])=some (.nx,σ',g ++ [pG xs r]):=e
  have e':kA fi be [some (.lst (d5 xs)),some (.int (r.1:Nat)),some (.tup r.2),none,none,none,none,none] g=some (.rt (.ref g.length),σ',g ++ [pG xs r]):=by
   simp [kA,e0,s1]
  refine⟨_,e',g.length,pG xs r,rfl,Nat.le_refl _,by simp,cg fun d hd=>?_,by simpa using hc.all _,by simp⟩
  obtain⟨k,hk,rfl⟩:=List.mem_map.mp hd
  have hk':=List.mem_range.mp (List.mem_filter.mp hk).1
  have h1:=qz (St.put hs (hx _ (cq hk')).r.dd) g.length
  simp [bp] at h1
  simp [iI,rD,bA,bp,aT,h1]
 obtain⟨q,e,rfl⟩:=key
 exact e
theorem mR {d:D}(h:lG d=true):∃i:Int,d = .int i:=by
 unfold lG within at h
 split at h
 . exact⟨_,rfl⟩
 . cases h
theorem j_ {P:D->Prop}(h:∀d e,P d->P e->(aB d e=true ↔ d=e)):∀(xs ys:List D),(∀x∈xs,P x)->(∀y∈ys,P y)->(bY xs ys=true ↔ xs=ys)
 | [],[],_,_=>by simp [bY]
 | [],_::_,_,_=>by simp [bY]
 | _::_,[],_,_=>by simp [bY]
 | x::xs,y::ys,h1,h2=>by
  have ih:=j_ h xs ys (fun z hz=>h1 z (by simp [hz])) (fun z hz=>h2 z (by simp [hz]))
  have h0:=h x y (h1 x (by simp)) (h2 y (by simp))
  show(aB x y&&bY xs ys)=true ↔ _
  rw [Bool.and_eq_true,h0,ih,List.cons.injEq]
theorem iO {xs ys:List D}:aB (.tup xs) (.tup ys)=bY xs ys:=by simp only [aB]
theorem DQ {i:Int}{ys:List D}:aB (.int i) (.tup ys)=false:=by simp [aB]
theorem C4 {i:Int}{ys:List D}:aB (.tup ys) (.int i)=false:=by simp [aB]
theorem iz {n:Nat}{d:D}(h:isVal (n+1) d=true):(∃i:Int,d = .int i) \/ ∃xs,d = .tup xs /\ ∀x∈xs,isVal n x=true:=by
 cases d with
 | tup xs =>
  simp only [isVal,Bool.and_eq_true,List.all_eq_true] at h
  exact .inr ⟨xs,rfl,h.2⟩
 | int i=>exact .inl ⟨i,rfl⟩
 | _=>simp [isVal,lG,within] at h
theorem mX:∀(n:Nat) (d e:D),isVal n d=true->isVal n e=true->(aB d e=true ↔ d=e)
 | 0,d,e,h1,h2=>by
  obtain⟨i,rfl⟩:=mR h1
  obtain⟨j,rfl⟩:=mR h2
  rw [eJ];simp
 | n+1,d,e,h1,h2=>by
  rcases iz h1 with⟨i,rfl⟩ | ⟨xs,rfl,hx⟩<;>rcases iz h2 with⟨j,rfl⟩ | ⟨ys,rfl,hy⟩
  . rw [eJ];simp
  . rw [DQ];simp
  . rw [C4];simp
  . rw [iO,j_ (P:=fun d=>isVal n d=true) (fun d e=>mX n d e) xs ys hx hy];simp
theorem nE:∀(n m:Nat) (d:D),isVal n d=true->n<=m->bf (m+1) d=true
 | 0,m,d,h,_=>by obtain⟨i,rfl⟩:=mR h;simp [bf]
 | n+1,m,d,h,hm=>by
  rcases iz h with⟨i,rfl⟩ | ⟨xs,rfl,hx⟩
  . simp [bf]
  . obtain⟨m',rfl⟩:∃m',m=m'+1:=⟨m-1,by omega⟩
    have:∀ys:List D,(∀y∈ys,isVal n y=true)->cJ (m'+1) ys=true:=fun ys=>by
     induction ys with
     | nil=>intro _;simp [cJ]
     | cons y ys ih=>intro hy;simp [cJ,nE n m' y (hy y (by simp)) (by omega),ih fun z hz=>hy z (by simp [hz])]
    simpa [bf] using this xs hx
def Rm (p:Int)(r:aC):Prop:=St p r.2
theorem uI {p:Int}{r s:aC}(hr:Rm p r)(hs:Rm p s):aB (rD r) (rD s)=true ↔ r=s:=by
 obtain⟨b,st⟩:=r
 obtain⟨c,su⟩:=s
 have h1:=j_ (P:=fun d=>isVal 3 d=true) (fun d e=>mX 3 d e) st su hr.2 hs.2
 have e1:aB (rD (b,st)) (rD (c,su))=(decide ((b:Int)=(c:Int))&&bY st su):=by
   show aB (.tup [.int (b:Nat),.tup st]) (.tup [.int (c:Nat),.tup su])=_
   rw [iO]
   show(aB (.int (b:Nat)) (.int (c:Nat))&&(aB (.tup st) (.tup su)&&bY [] []))=_
   rw [eJ,iO]
   simp [bY]
 rw [e1,Bool.and_eq_true,h1,decide_eq_true_eq,Prod.mk.injEq]
 constructor
 . rintro⟨h2,h3⟩;exact⟨by omega,h3⟩
 . rintro⟨rfl,rfl⟩;exact⟨rfl,rfl⟩
theorem qU {p:Int}{r:aC}(hr:Rm p r):bf 6 (rD r)=true:=by
 have:∀ys:List D,(∀y∈ys,isVal 3 y=true)->cJ 4 ys=true:=fun ys=>by
  induction ys with
  | nil=>intro _;simp [cJ]
  | cons y ys ih=>intro hy;simp [cJ,nE 3 3 y (hy y (by simp)) (by omega),ih fun z hz=>hy z (by simp [hz])]
 simp [rD,bf,cJ,this r.2 hr.2]
def dR:List (aC×D)->List D
 | []=>[]
 | e::r=>rD e.1::e.2::dR r
theorem E_ (es:List (aC×D)):(dR es).length=2*es.length:=by
 induction es with
 | nil=>rfl
 | cons e es ih=>simp [dR,ih];omega
theorem Ar (es:List (aC×D)):aO (dR es)=es.map fun e=>rD e.1:=by
 induction es with
 | nil=>rfl
 | cons e es ih=>simp [dR,aO,ih]
theorem sP {p:Int}:∀{es:List (aC×D)} {r:aC},(∀e∈es,Rm p e.1)->Rm p r->(∀e∈es,e.1≠r)->aV (dR es) (rD r)=none /\ ∀v,bD (dR es) (rD r) v=dR (es ++ [(r,v)])
 | [],r,_,_,_=>⟨rfl,fun _=>rfl⟩
 | e::es,r,h1,h2,h3=>by
  obtain⟨i1,i2⟩:=sP (es:=es) (r:=r) (fun x hx=>h1 x (by simp [hx])) h2 (fun x hx=>h3 x (by simp [hx]))
  have:aB (rD e.1) (rD r)=false:=by
    cases hq:aB (rD e.1) (rD r) with
    | false=>rfl
    | true=>exact absurd ((uI (h1 e (by simp)) h2).mp hq) (h3 e (by simp))
  constructor
  . simp only [dR,aV,this,Bool.false_eq_true,if_false,i1]
  . intro v
    simp only [dR,bD,this,Bool.false_eq_true,if_false,i2,List.cons_append]
theorem qZ {p:Int}:∀{es:List (aC×D)} {r:aC} {v:D},(∀e∈es,Rm p e.1)->(es.map (·.1)).Nodup->(r,v)∈es->aV (dR es) (rD r)=some v
 | e::es,r,v,h1,hn,hm=>by
  rw [List.map_cons,List.nodup_cons] at hn
  simp only [dR,aV]
  by_cases hq:e.1=r
  . subst hq
    rw [if_pos ((uI (h1 e (by simp)) (h1 e (by simp))).mpr rfl)]
    rcases List.mem_cons.mp hm with he | hm
    . rw [<- he]
    . exact absurd (List.mem_map.mpr ⟨_,hm,rfl⟩) hn.1
  . have hm':(r,v)∈es:=by
      rcases List.mem_cons.mp hm with rfl | hm
      . exact absurd rfl hq
      . exact hm
    rw [if_neg (fun z=>hq ((uI (h1 e (by simp)) (h1 _ (by simp [hm']:(r,v)∈e::es))).mp z))]
    exact qZ (fun x hx=>h1 x (by simp [hx])) hn.2 hm'
def rZ:FT:=az (aj bO (aj aw (aa 0) (aa 1)) (fC .non))
def y0:FS:=cc (bX isRef bG (aa 2) (af (aj aw (aj aw (aa 0) (aa 1)) (fC (.int 0))) ao))
def zD:FS:=aA (aj aw (aj aw (aa 0) (aa 1)) (fC (.int 1))) (gN 1)
def Ef:FS:=aQ (lK (aa 2))
def oB:FS:=ax (aA (aG mkRef ao) (gN 2)) (ax (iE 1000000 rZ (ax y0 zD)) Ef)
def first (p:Int):aC:=(0,zs p)
structure dC (xs:List Rt)(p:Int)(es:List (aC×D)):Prop where
 rm:∀e∈es,Rm p e.1
 nd:(es.map (·.1)).Nodup
 at_:∀(i:Nat) (e:aC×D),es[i]? = some e->(e=(first p,D.non)) \/ ∃(j:Nat) (r':aC) (v':D) (k:Nat),j<i/\es[j]? = some (r',v')/\k<xs.length/\cb xs r' k=true/\e=(bA xs r' k,D.tup [D.int (k:Nat),rD r'])
theorem DY {xs:List Rt}{p:Int}{es:List (aC×D)}(C:dC xs p es){g:G}{m:Nat}(hm:g[m]? = some (dR es)):∀(i:Nat) (e:aC×D),es[i]? = some e->∃ks,Path xs p ks e.1/\ks.length<=i /\ ∀(f:Nat) (acc:List D),i<f->acc.length+i<=16000000->∃σ',σ'[2]? = some (some (.ref g.length))/\fJ rZ (ax y0 zD) f [some (.aI m),some (rD e.1),some (.ref g.length)] (g ++ [acc])=some (.nx,σ',g ++ [acc++(kD ks).reverse]):=by
 intro i
 induction i using Nat.strongRecOn with
 | ind i ih =>
 intro e he
 have hml:m<g.length:=(List.getElem?_eq_some_iff.mp hm).1
 have hma:∀acc:List D,(g ++ [acc])[m]? = some (dR es):=fun acc=>by rw [List.getElem?_append_left hml];exact hm
 have hem:e∈es:=List.mem_of_getElem? he
 have hk:=qU (C.rm e hem)
 have hg:aV (dR es) (rD e.1)=some e.2:=qZ C.rm C.nd hem
 rcases C.at_ i e he with e0 | ⟨j,r',v',k,hj,hj2,hkn,hc,e1⟩
 . refine⟨[],by rw [e0];exact Path.nil,by simp,fun f acc hf _=>?_⟩
   obtain⟨f,rfl⟩:∃f',f=f'+1:=⟨f-1,by omega⟩
   refine⟨[some (.aI m),some (rD e.1),some (.ref g.length)],rfl,?_⟩
   have h2:e.2 = .non:=by rw [e0]
   have ht:rZ [some (.aI m),some (rD e.1),some (.ref g.length)] (g ++ [acc])=some (false,g ++ [acc]):=by
    simp [rZ,hma,hk,hg,h2,isLit,cx]
   simp [fJ,ht,kD]
 . obtain⟨ks,p1,p2,p3⟩:=ih j hj (r',v') hj2
   subst e1
   refine⟨ks ++ [k],Path.snoc p1 hkn hc,by simp;omega,fun f acc hf hs=>?_⟩
   obtain⟨f,rfl⟩:∃f',f=f'+1:=⟨f-1,by omega⟩
   obtain⟨σ',s1,s2⟩:=p3 f (acc ++ [.int (k:Nat)]) (by omega) (by simp;omega)
   refine⟨σ',s1,?_⟩
   have ht:rZ [some (.aI m),some (rD (bA xs r' k)),some (.ref g.length)] (g ++ [acc])=some (true,g ++ [acc]):=by
    simp [rZ,hma,hk,hg,isLit,cx]
   have hz:aF (acc.length+1)=true:=by unfold aF;exact decide_eq_true (by omega)
   have ha:y0 [some (.aI m),some (rD (bA xs r' k)),some (.ref g.length)] (g ++ [acc])=some (.nx,[some (.aI m),some (rD (bA xs r' k)),some (.ref g.length)],g ++ [acc ++ [.int (k:Nat)]]):=by
    simp [y0,hma,hk,hg,cR,hz]
   have hr:zD [some (.aI m),some (rD (bA xs r' k)),some (.ref g.length)] (g ++ [acc ++ [.int (k:Nat)]])=some (.nx,[some (.aI m),some (rD r'),some (.ref g.length)],g ++ [acc ++ [.int (k:Nat)]]):=by
    simp [zD,hma,hk,hg,dD]
   rw [show acc++(kD (ks ++ [k])).reverse=(acc ++ [.int (k:Nat)])++(kD ks).reverse by simp [kD],<- s2]
   simp [fJ,ht,ha,hr]
def oK (xs:List Rt)(p:Int)(f:Fn):Prop:=∀es g m e,dC xs p es->es.length<=900000->g[m]? = some (dR es)->e∈es->g.all (aT g.length)=true->∃ks,Path xs p ks e.1/\f [.aI m,rD e.1] g=some (.tup (kD ks),g)
theorem DX {xs:List Rt}{p:Int}:oK xs p (aJ false 3 2 oB):=fun es g m e C hl hm he hc=>by
 obtain⟨i,hi⟩:=List.mem_iff_getElem?.mp he
 have hil:=(List.getElem?_eq_some_iff.mp hi).1
 obtain⟨ks,p1,p2,p3⟩:=DY C hm i e hi
 obtain⟨σ',s1,s2⟩:=p3 1000000 [] (by omega) (by simp;omega)
 refine⟨ks,p1,?_⟩
 have key:wp (aJ false 3 2 oB [.aI m,rD e.1] g) fun q=>q=(.tup (kD ks),g):=by
  refine fL rfl ?_
  rw [List.nil_append] at s2
  have hz:aF (kD ks).reverse.length=true:=by unfold aF;exact decide_eq_true (by simp [kD];omega)
  have hx:Ef σ' (g ++ [(kD ks).reverse])=some (.rt (.tup (kD ks)),σ',g ++ [(kD ks).reverse]):=by
   simp only [Ef,nj]
   unfold lK
   simp only [fS,s1,Option.bind_some,dP]
   have hz':aF (kD ks).length=true:=by simpa using hz
   simp [hz']
  have e':oB [some (.aI m),some (rD e.1),none] g=some (.rt (.tup (kD ks)),σ',g ++ [(kD ks).reverse]):=by
   simp [oB,iE,s2,hx]
  refine⟨_,e',by simpa [bp] using (cg fun x hx'=>by obtain⟨k,_,rfl⟩:=List.mem_map.mp hx';rfl:aT g.length (kD ks)=true),by simpa using hc,by simp,by simp⟩
 obtain⟨q,e',rfl⟩:=key
 exact e'
def keys (es:List (aC×D)):List aC:=es.map (·.1)
theorem dC.path {xs:List Rt}{p:Int}{es:List (aC×D)}(C:dC xs p es):∀(i:Nat) (e:aC×D),es[i]? = some e->∃ks,Path xs p ks e.1:=by
 intro i
 induction i using Nat.strongRecOn with
 | ind i ih =>
 intro e he
 rcases C.at_ i e he with e0 | ⟨j,r',v',k,hj,hj2,hkn,hc,e1⟩
 . exact⟨[],by rw [e0];exact Path.nil⟩
 . obtain⟨ks,p1⟩:=ih j hj (r',v') hj2
   exact⟨ks ++ [k],by rw [e1];exact Path.snoc p1 hkn hc⟩
theorem dC.le {xs:List Rt}{p:Int}{es:List (aC×D)}(C:dC xs p es)(p0:0<=p)(hx:∀x∈xs,bx p x):es.length<=3 ^ xs.length:=by
 have:=pX p0 hx C.nd fun r hr=>by
  obtain⟨e,he,rfl⟩:=List.mem_map.mp hr
  obtain⟨i,hi⟩:=List.mem_iff_getElem?.mp he
  exact C.path i e hi
 simpa using this
theorem dC.add {xs:List Rt}{p:Int}{es:List (aC×D)}(C:dC xs p es)(hx:∀x∈xs,bx p x){r:aC}{k:Nat}(hr:r∈keys es)(hk:k<xs.length)(hc:cb xs r k=true)(hn:bA xs r k ∉ keys es):dC xs p (es ++ [(bA xs r k,.tup [.int (k:Nat),rD r])]):=by
 obtain⟨e,he,rfl⟩:=List.mem_map.mp hr
 refine⟨fun e' h'=>?_,?_,fun i e' h'=>?_⟩
 . rcases List.mem_append.mp h' with h' | h'
   . exact C.rm e' h'
   . simp at h';subst h';exact St.put (C.rm e he) (hx _ (cq hk)).r.dd
 . rw [List.map_append,List.nodup_append]
   refine⟨C.nd,by simp,fun a ha b hb z=>?_⟩
   simp at hb
   subst hb;subst z
   exact hn ha
 . by_cases hi:i<es.length
   . rw [List.getElem?_append_left hi] at h'
     rcases C.at_ i e' h' with h0 | ⟨j,r',v',k',h1,h2,h3⟩
     . exact .inl h0
     . exact .inr ⟨j,r',v',k',h1,by rw [List.getElem?_append_left (by omega)];exact h2,h3⟩
   . rw [List.getElem?_append_right (by omega)] at h'
     have hi2:i-es.length=0:=by
       have:=(List.getElem?_eq_some_iff.mp h').1
       simp at this;omega
     rw [hi2] at h'
     simp at h'
     obtain⟨j,hj⟩:=List.mem_iff_getElem?.mp he
     have hjl:=(List.getElem?_eq_some_iff.mp hj).1
     exact .inr ⟨j,e.1,e.2,k,by omega,by rw [List.getElem?_append_left hjl];exact hj,hk,hc,h'.symm⟩
def pU:FS:=bH (az (aj cW (aa 9) (aa 5))) (ax (aA (aG aD (af (aa 8) (af (aa 7) ao))) (dB (aa 5) (aa 9))) (cc (bX isRef bG (aa 6) (af (aa 9) ao)))) aR
abbrev cT (p:Int)(xs:List Rt)(n:Nat)(c7 c8 c9:Option D):Sg:=[some (.int p),some (.tup (xs.map rt)),some (.lst (d5 xs)),some (.int (i8 xs:Nat)),some (rD (first p)),some (.aI n),some (.ref (n+1)),c7,c8,c9]
structure jf (es es':List (aC×D))(S S':List aC):Prop where
 ln:es'.length+S.length=es.length+S'.length
 sub:∀v∈keys es,v∈keys es'
 old:∀v∈keys es',v∈keys es\/v∈S'
 st:∀v∈S,v∈S'
 ss:∀v∈S',v∈S\/v∈keys es'
theorem jf.refl {es:List (aC×D)}{S:List aC}:jf es es S S:=⟨rfl,fun _ h=>h,fun _ h=>.inl h,fun _ h=>h,fun _ h=>.inl h⟩
theorem jf.trans {a b c:List (aC×D)}{S T U:List aC}(h1:jf a b S T)(h2:jf b c T U):jf a c S U:=by
 have l1:=h1.ln
 have l2:=h2.ln
 refine⟨by omega,fun v h=>h2.sub v (h1.sub v h),fun v h=>?_,fun v h=>h2.st v (h1.st v h),fun v h=>?_⟩
 . rcases h2.old v h with h | h
   . rcases h1.old v h with h | h
     . exact .inl h
     . exact .inr (h2.st v h)
   . exact .inr h
 . rcases h2.ss v h with h | h
   . rcases h1.ss v h with h | h
     . exact .inl h
     . exact .inr (h2.sub v h)
   . exact .inr h
theorem inner {xs:List Rt}{p:Int}(p0:0<=p)(hx:∀x∈xs,bx p x)(hl:xs.length<=12){g:G}{r:aC}:∀(ks:List Nat) (es:List (aC×D)) (S:List aC) (c8 c9:Option D),(∀k∈ks,k<xs.length/\cb xs r k=true)->dC xs p es->r∈keys es->S.length<=es.length ->
  ∃es' S' c8' c9',forL (gT 2 (aq (gN 8) (aq (gN 9) aK))) pU (ks.map (iI xs r)) (cT p xs g.length (some (rD r)) c8 c9) (g ++ [dR es,S.map rD])=some (.nx,cT p xs g.length (some (rD r)) c8' c9',g ++ [dR es',S'.map rD])/\dC xs p es'/\jf es es' S S' /\ ∀k∈ks,bA xs r k∈keys es'
 | [],es,S,c8,c9,_,C,_,_=>⟨es,S,c8,c9,rfl,C,jf.refl,by simp⟩
 | k::ks,es,S,c8,c9,h,C,hr,hS=>by
  obtain⟨hk,hc⟩:=h k (by simp)
  obtain⟨er,her,her2⟩:=List.mem_map.mp hr
  have hrm:Rm p r:=by rw [<- her2];exact C.rm er her
  have hrn:Rm p (bA xs r k):=St.put hrm (hx _ (cq hk)).r.dd
  have kk:=qU hrn
  have a0:(g ++ [dR es,S.map rD])[g.length]? = some (dR es):=by simp
  have a1:∀d:List D,(g ++ [d,S.map rD])[g.length+1]? = some (S.map rD):=fun _=>by simp
  have tg:gT 2 (aq (gN 8) (aq (gN 9) aK)) (iI xs r k) (cT p xs g.length (some (rD r)) c8 c9) (g ++ [dR es,S.map rD])=some (cT p xs g.length (some (rD r)) (some (.int k)) (some (rD (bA xs r k))),g ++ [dR es,S.map rD]):=by
    simp [iI]
  by_cases hm:bA xs r k∈keys es
  . obtain⟨e,he,he2⟩:=List.mem_map.mp hm
    have hg:aV (dR es) (rD (bA xs r k))=some e.2:=qZ C.rm C.nd (by rw [<- he2];exact he)
    have bd:pU (cT p xs g.length (some (rD r)) (some (.int k)) (some (rD (bA xs r k)))) (g ++ [dR es,S.map rD])=some (.nx,cT p xs g.length (some (rD r)) (some (.int k)) (some (rD (bA xs r k))),g ++ [dR es,S.map rD]):=by
      simp [pU,kk,hg]
    obtain⟨es',S',c8',c9',e1,C',G',h'⟩:=inner p0 hx hl (g:=g) ks es S (some (.int k)) (some (rD (bA xs r k))) (fun j hj=>h j (by simp [hj])) C hr hS
    refine⟨es',S',c8',c9',?_,C',G',fun j hj=>?_⟩
    . rw [<- e1,List.map_cons]
      simp only [forL,tg,Option.bind_some,bd]
    . rcases List.mem_cons.mp hj with rfl | hj
      . exact G'.sub _ hm
      . exact h' j hj
  . obtain⟨hg,hp⟩:=sP (p:=p) C.rm hrn (fun e he z=>hm (List.mem_map.mpr ⟨e,he,z⟩))
    have hle:=C.le p0 hx
    have h3:3 ^ xs.length<=3 ^ 12:=Nat.pow_le_pow_right (by omega) hl
    have h3':(3:Nat) ^ 12=531441:=by decide
    have hs:iu (dR es)=true:=by unfold iu aF;exact decide_eq_true (by rw [E_];omega)
    have hz:aF (S.length+1)=true:=by unfold aF;exact decide_eq_true (by omega)
    have C2:=C.add hx hr hk hc hm
    have bd:pU (cT p xs g.length (some (rD r)) (some (.int k)) (some (rD (bA xs r k)))) (g ++ [dR es,S.map rD])=some (.nx,cT p xs g.length (some (rD r)) (some (.int k)) (some (rD (bA xs r k))),g ++ [dR (es ++ [(bA xs r k,.tup [.int (k:Nat),rD r])]),(S ++ [bA xs r k]).map rD]):=by
      have q1:=hp (.tup [.int (k:Nat),rD r])
      simp [pU,kk,hg,hs,q1,hz,List.set_append]
    have hr2:r∈keys (es ++ [(bA xs r k,.tup [.int (k:Nat),rD r])]):=by unfold keys;rw [List.map_append];exact List.mem_append.mpr (.inl hr)
    obtain⟨es',S',c8',c9',e1,C',G',h'⟩:=inner p0 hx hl (g:=g) ks _ (S ++ [bA xs r k]) (some (.int k)) (some (rD (bA xs r k))) (fun j hj=>h j (by simp [hj])) C2 hr2 (by simp;omega)
    have G1:jf es (es ++ [(bA xs r k,.tup [.int (k:Nat),rD r])]) S (S ++ [bA xs r k]):=by
      refine⟨by simp;omega,fun v hv=>by unfold keys at *;rw [List.map_append];exact List.mem_append.mpr (.inl hv),fun v hv=>?_,fun v hv=>List.mem_append.mpr (.inl hv),fun v hv=>?_⟩
      . unfold keys at *
        rw [List.map_append] at hv
        rcases List.mem_append.mp hv with hv | hv
        . exact .inl hv
        . exact .inr (List.mem_append.mpr (.inr (by simpa using hv)))
      . rcases List.mem_append.mp hv with hv | hv
        . exact .inl hv
        . refine .inr ?_
          unfold keys
          rw [List.map_append]
          exact List.mem_append.mpr (.inr (by simpa using hv))
    refine⟨es',S',c8',c9',?_,C',G1.trans G',fun j hj=>?_⟩
    . rw [<- e1,List.map_cons]
      simp only [forL,tg,Option.bind_some,bd]
    . rcases List.mem_cons.mp hj with rfl | hj
      . exact G'.sub _ (by unfold keys;simp)
      . exact h' j hj
def Cy:FS:=aA (bX isRef nD (aa 6) ao) (gN 7)
def zu:FT:=az (aj oEq (aj (aY bQ Builtin.bitAnd) (aj aw (aa 7) (fC (.int 0))) (aa 3)) (aa 3))
def Hh (way:Fn):FS:=aQ (aG aD (af (fC (.str "order")) (af (au way (af (aa 5) (af (aa 7) ao))) ao)))
def Eg (leads:Fn):FS:=cI (b_ (au leads (af (aa 2) (af (aj aw (aa 7) (fC (.int 0))) (af (aj aw (aa 7) (fC (.int 1))) ao))))) (gT 2 (aq (gN 8) (aq (gN 9) aK))) pU
def kP:FT:=az (aj sv (au cU (af (aa 6) ao)) (fC (.int 0)))
def lJ (leads way:Fn):FS:=ax Cy (ax (bH zu (Hh way) aR) (Eg leads))
theorem qo {p:Int}{r:aC}(h:Rm p r)(n:Nat):bp n (rD r)=true:=by
 have h1:=qz h n
 simp [bp] at h1
 simp [rD,bp,aT,h1]
theorem A3 {p:Int}{S:List aC}(h:∀v∈S,Rm p v)(n:Nat):aT n (S.map rD)=true:=cg fun d hd=>by
 obtain⟨v,hv,rfl⟩:=List.mem_map.mp hd
 exact qo (h v hv) n
theorem Fh {es:List (aC×D)}{d:D}(h:d∈dR es):∃e∈es,d=rD e.1\/d=e.2:=by
 induction es with
 | nil=>cases h
 | cons e es ih =>
  simp only [dR,List.mem_cons] at h
  rcases h with rfl | rfl | h
  . exact⟨e,by simp,.inl rfl⟩
  . exact⟨e,by simp,.inr rfl⟩
  . obtain⟨e',h1,h2⟩:=ih h
    exact⟨e',by simp [h1],h2⟩
theorem dC.bp {xs:List Rt}{p:Int}{es:List (aC×D)}(C:dC xs p es)(n:Nat):aT n (dR es)=true:=cg fun d hd=>by
 obtain⟨e,he,h⟩:=Fh hd
 rcases h with rfl | rfl
 . exact qo (C.rm e he) n
 . obtain⟨i,hi⟩:=List.mem_iff_getElem?.mp he
   rcases C.at_ i e hi with e0 | ⟨j,r',v',k,_,hj2,_,_,e1⟩
   . rw [e0];rfl
   . have:=qo (C.rm _ (List.mem_of_getElem? hj2)) n
     rw [e1]
     simp [L3.bp,aT]
     exact this
theorem dC.D1 {xs:List Rt}{p:Int}{es:List (aC×D)}(C:dC xs p es){v:aC}(h:v∈keys es):Rm p v:=by
 obtain⟨e,he,rfl⟩:=List.mem_map.mp h
 exact C.rm e he
theorem wF {g:G}{a b:List D}(hc:Clean g)(ha:∀n,aT n a=true)(hb:∀n,aT n b=true):Clean (g ++ [a,b]):=fun xs hx n=>by
 rcases List.mem_append.mp hx with h | h
 . exact hc xs h n
 . simp at h
   rcases h with rfl | rfl
   . exact ha n
   . exact hb n
structure LI (xs:List Rt)(p:Int)(es:List (aC×D))(S:List aC)(c:Nat):Prop where
 C:dC xs p es
 fs:first p∈keys es
 sk:∀v∈S,v∈keys es
 pr:∀v∈keys es,v∈S\/(dw xs v.1=false /\ ∀k<xs.length,cb xs v k=true->bA xs v k∈keys es)
 ct:c+S.length=es.length
def qR (xs:List Rt)(p:Int)(es:List (aC×D)):Prop:=first p∈keys es /\ ∀v∈keys es,dw xs v.1=false /\ ∀k<xs.length,cb xs v k=true->bA xs v k∈keys es
theorem qR.no {xs p es}(h:qR xs p es){ks:List Nat}{r:aC}(hp:Path xs p ks r):r∈keys es/\dw xs r.1=false:=by
 have:r∈keys es:=by
  induction hp with
  | nil=>exact h.1
  | snoc _ hk hc ih=>exact(h.2 _ ih).2 _ hk hc
 exact⟨this,(h.2 _ this).1⟩
set_option maxHeartbeats 4000000 in
theorem loop {le wa:Fn}{xs:List Rt}{p:Int}(p0:0<=p)(hx:∀x∈xs,bx p x)(hl:xs.length<=12)(hle:j8 p le)(hwa:oK xs p wa){g:G}(hc:Clean g):∀(f c:Nat) (es:List (aC×D)) (S:List aC) (c7 c8 c9:Option D),LI xs p es S c->3 ^ xs.length+1<=f+c ->
  (∃σ' a b ks r,fJ kP (lJ le wa) f (cT p xs g.length c7 c8 c9) (g ++ [dR es,S.map rD])=some (.rt (.tup [.str "order",.tup (kD ks)]),σ',g ++ [a,b])/\Path xs p ks r/\dw xs r.1=true) \/
  (∃es' d7 d8 d9,fJ kP (lJ le wa) f (cT p xs g.length c7 c8 c9) (g ++ [dR es,S.map rD])=some (.nx,cT p xs g.length d7 d8 d9,g ++ [dR es',[]])/\dC xs p es'/\qR xs p es')
 | 0,c,es,S,c7,c8,c9,I,hf=>by
  have:=I.C.le p0 hx
  have:=I.ct
  omega
 | f+1,c,es,S,c7,c8,c9,I,hf=>by
  have a1:(g ++ [dR es,S.map rD])[g.length+1]? = some (S.map rD):=by simp
  have ec:kP (cT p xs g.length c7 c8 c9) (g ++ [dR es,S.map rD])=some (decide (0<S.length),g ++ [dR es,S.map rD]):=by
    simp [kP,bZ]
  rcases List.eq_nil_or_concat S with rfl | ⟨T,r,rfl⟩
  . refine .inr ⟨es,c7,c8,c9,?_,I.C,I.fs,fun v hv=>?_⟩
    . simp only [fJ,ec]
      simp
    . rcases I.pr v hv with h | h
      . cases h
      . exact h
  . rw [List.concat_eq_append] at I ec a1 ⊢
    have hrk:r∈keys es:=I.sk r (by simp)
    have hrm:=I.C.D1 hrk
    have ct:=I.ct
    have po:Cy (cT p xs g.length c7 c8 c9) (g ++ [dR es,(T ++ [r]).map rD])=some (.nx,cT p xs g.length (some (rD r)) c8 c9,g ++ [dR es,T.map rD]):=by
      simp [Cy,nD,List.set_append]
    have ec':kP (cT p xs g.length c7 c8 c9) (g ++ [dR es,(T ++ [r]).map rD])=some (true,g ++ [dR es,(T ++ [r]).map rD]):=by
      rw [ec];simp
    have cl:Clean (g ++ [dR es,T.map rD]):=wF hc (fun n=>I.C.bp n) (fun n=>A3 (fun v hv=>I.C.D1 (I.sk v (by simp [hv]))) n)
    have ba:=i9 r.1 (i8 xs)
    have ev:zu (cT p xs g.length (some (rD r)) c8 c9) (g ++ [dR es,T.map rD])=some (dw xs r.1,g ++ [dR es,T.map rD]):=by
      have e1:=AF xs r.1
      generalize hen:i8 xs=en at *
      cases h:dw xs r.1 with
      | true =>
        have e2:=e1.mpr h
        rw [e2] at ba
        simp [zu,rD,cR,aY,bQ,ba,hen]
      | false =>
        have e2:¬(r.1 &&& en)=en:=fun z=>by rw [e1.mp z] at h;cases h
        have e3:¬(((r.1 &&& en:Nat):Int)=(en:Int)):=by omega
        generalize (r.1 &&& en)=ae at *
        simp [zu,rD,cR,aY,bQ,ba,hen,e3]
    cases hE:dw xs r.1 with
    | true =>
      rw [hE] at ev
      obtain⟨e,he,he2⟩:=List.mem_map.mp hrk
      have h3:=I.C.le p0 hx
      have h4:3 ^ xs.length<=3 ^ 12:=Nat.pow_le_pow_right (by omega) hl
      have h5:(3:Nat) ^ 12=531441:=by decide
      obtain⟨ks,p1,p2⟩:=hwa es (g ++ [dR es,T.map rD]) g.length e I.C (by omega) (by simp) he (cl.all _)
      rw [he2] at p1 p2
      refine .inl ⟨cT p xs g.length (some (rD r)) c8 c9,dR es,T.map rD,ks,r,?_,p1,hE⟩
      simp only [fJ,ec',Option.bind_some,if_true,lJ,dy,po,iR,ev]
      simp [Hh,p2]
    | false =>
      rw [hE] at ev
      have ld:=hle xs r (g ++ [dR es,T.map rD]) hx (by omega) hrm cl
      obtain⟨es',S',d8,d9,e1,C',G',h'⟩:=inner p0 hx hl (g:=g) (r:=r) ((List.range xs.length).filter (cb xs r)) es T c8 c9 (fun k hk=>⟨List.mem_range.mp (List.mem_filter.mp hk).1,(List.mem_filter.mp hk).2⟩) I.C hrk (by simp at ct;omega)
      have e1':Eg le (cT p xs g.length (some (rD r)) c8 c9) (g ++ [dR es,T.map rD])=some (.nx,cT p xs g.length (some (rD r)) d8 d9,g ++ [dR es',S'.map rD]):=by
        have e2:forL (gT 2 (aq (gN 8) (aq (gN 9) aK))) pU (pG xs r) (cT p xs g.length (some (rD r)) c8 c9) (g ++ [dR es,T.map rD])=_:=e1
        have i1:b_ (au le (af (aa 2) (af (aj aw (aa 7) (fC (.int 0))) (af (aj aw (aa 7) (fC (.int 1))) ao)))) (cT p xs g.length (some (rD r)) c8 c9) (g ++ [dR es,T.map rD])=some (pG xs r,g ++ [dR es,T.map rD]):=by
          simp [rD,cR,dD,ld]
        simp only [Eg,mZ,i1,Option.bind_some,e2]
      have I':LI xs p es' S' (c+1):=by
        have gl:=G'.ln
        refine⟨C',G'.sub _ I.fs,fun v hv=>?_,fun v hv=>?_,by simp at ct;omega⟩
        . rcases G'.ss v hv with h | h
          . exact G'.sub v (I.sk v (by simp [h]))
          . exact h
        . rcases G'.old v hv with h | h
          . rcases I.pr v h with h2 | ⟨h2,h3⟩
            . rcases List.mem_append.mp h2 with h2 | h2
              . exact .inl (G'.st v h2)
              . simp at h2
                subst h2
                exact .inr ⟨hE,fun k hk hk2=>h' k (List.mem_filter.mpr ⟨List.mem_range.mpr hk,hk2⟩)⟩
            . exact .inr ⟨h2,fun k hk hk2=>G'.sub _ (h3 k hk hk2)⟩
          . exact .inl h
      have step:fJ kP (lJ le wa) (f+1) (cT p xs g.length c7 c8 c9) (g ++ [dR es,(T ++ [r]).map rD])=fJ kP (lJ le wa) f (cT p xs g.length (some (rD r)) d8 d9) (g ++ [dR es',S'.map rD]):=by
        simp only [fJ,ec',Option.bind_some,if_true,lJ,dy,po,iR,ev]
        simp [e1']
      rw [step]
      exact loop p0 hx hl hle hwa hc f (c+1) es' S' (some (rD r)) d8 d9 I' (by omega)
theorem kL {α:Type}{f h:α->D}{t:FG}{e:FE}{nn:Nat}{g:G}{ys:List D}{xs:List α}(hg:g[nn]? = some ys)(hk:aO ys=xs.map f)(I:Sg->Prop)(hh:∀x∈xs,∀σ,I σ->∃σ1,t (f x) σ g=some (σ1,g)/\e σ1 g=some (h x,g)/\I σ1) :
  ∀(k:Nat) (σ:Sg),k<=xs.length->I σ->cC nn xs.length t bC e k σ g=some ((xs.drop (xs.length-k)).map h,g)
 | 0,σ,_,_=>by simp [cC,hg,hk]
 | k+1,σ,hkl,hi=>by
  have hlt:xs.length-(k+1)<xs.length:=by omega
  obtain⟨σ1,h1,h2,h4⟩:=hh (xs[xs.length-(k+1)]) (List.getElem_mem hlt) σ hi
  have ih:=kL hg hk I hh k σ1 (by omega) h4
  rw [List.drop_eq_getElem_cons hlt,show xs.length-(k+1)+1=xs.length-k by omega]
  have hget:(xs.map f)[xs.length-(k+1)]? = some (f xs[xs.length-(k+1)]):=by simp [hlt]
  simp only [cC,hg,hk,Option.map_some,Option.bind_some,List.length_map,if_true,hget,h1]
  simp [h2,ih]
def xt:FS:=aQ (au de (af (bU bB (gy (af (aa 1) ao)) [none,none,some 0] (gN 1) (az (aj ff (aj (aY bQ Builtin.bitAnd) (aa 2) (aj (aY cu (fun i j=>i*2 ^ j.toNat)) (fC (.int 1)) (aa 1))) (fC (.int 0)))) (aa 1)) ao))
def aP (n b:Nat):List Nat:=(List.range n).filter fun i=>b.testBit i
def gH (f:Fn):Prop:=∀(b n:Nat) g,n<=100->f [.int (b:Nat),.int (n:Nat)] g=some (.tup (kD (aP n b)),g)
theorem GJ:gH (aJ false 2 2 xt):=fun b n g hn=>by
 refine dE (σ':=[some (.int (b:Nat)),some (.int (n:Nat))]) rfl ?_ rfl
 have hr:dA 0 n=(List.range n).map fun(i:Nat)=>D.int (i:Nat):=by
  unfold dA
  exact List.map_congr_left fun i _=>by simp
 have ir:gy (af (aa 1) ao) [some (.int (b:Nat)),some (.int (n:Nat))] g=some (dA 0 n,g):=by
  obtain⟨q,e,h⟩:wp (gy (af (aa 1) ao) [some (.int (b:Nat)),some (.int (n:Nat))] g) fun q=>q=(dA 0 n,g):=by
   refine lF ?_
   simp
   omega
  rw [e,h]
 have hz:aF (dA 0 n).length=true:=aL (by rw [iV];omega)
 have c1:=eX (f:=fun(i:Nat)=>D.int (i:Nat)) (t:=gN 1) (c:=az (aj ff (aj (aY bQ Builtin.bitAnd) (aa 2) (aj (aY cu (fun i j=>i*2 ^ j.toNat)) (fC (.int 1)) (aa 1))) (fC (.int 0)))) (e:=aa 1) (cB:=fun i=>b.testBit i) (h:=fun(i:Nat)=>D.int (i:Nat)) (fun σ=>∃a,σ = [none,a,some (.int (b:Nat))]) (List.range n) [none,none,some (.int (b:Nat))] g ⟨_,rfl⟩ (by
  rintro i hm σ ⟨a,rfl⟩
  have hi:=List.mem_range.mp hm
  refine⟨[none,some (.int i),some (.int (b:Nat))],by simp,?_,fun _=>by simp,⟨_,rfl⟩⟩
  have o1:=pK (show i<=1000 by omega)
  have hc:((2:Int) ^ i)=((2 ^ i:Nat):Int):=by simp
  have ba:Builtin.bitAnd (b:Int) ((2:Int) ^ i)=((b &&& 2 ^ i:Nat):Int):=by rw [hc];exact i9 b (2 ^ i)
  have e1:=mV b i
  cases ht:b.testBit i with
  | false =>
   have e2:=e1.mpr ht
   rw [e2] at ba
   simp [aY,bQ,o1,ba,flat,dep,eJ]
  | true =>
   have e2:¬(b &&& 2 ^ i)=0:=fun z=>by rw [e1.mp z] at ht;cases ht
   have e3:¬(((b &&& 2 ^ i:Nat):Int)=0):=by omega
   generalize (b &&& 2 ^ i)=ae at *
   simp [aY,bQ,o1,ba,flat,dep,eJ]
   omega)
 rw [<- hr] at c1
 have c2:bW (gN 1) (az (aj ff (aj (aY bQ Builtin.bitAnd) (aa 2) (aj (aY cu (fun i j=>i*2 ^ j.toNat)) (fC (.int 1)) (aa 1))) (fC (.int 0)))) (aa 1) (dA 0 n) [none,none,some (.int (b:Nat))] g=some (kD (aP n b),g):=c1
 have sb:bu [none,none,some 0] [some (D.int (b:Nat)),some (D.int (n:Nat))] = [none,none,some (.int (b:Nat))]:=rfl
 have hz2:aF (kD (aP n b)).length=true:=aL (by
  have:=List.length_filter_le (fun i=>b.testBit i) (List.range n)
  simp at this
  simp [kD,aP]
  omega)
 show xt [some (.int (b:Nat)),some (.int (n:Nat))] g=_
 unfold xt
 simp only [nj,kY,gX,kH,ye,ir,Option.bind_some,hz,if_true,sb,c2]
 simp [bB,de,bZ,hz2]
def wI (rd:Fn):FS:=aQ (aG aD (af (fC (.str "none")) (af (au de (af (iN bB (kX (aa 5)) [none,none,none,some 1] (gT 2 (aq (gN 1) (aq (gN 2) aK))) bC (aG aD (af (au rd (af (aa 1) (af (au cU (af (aa 3) ao)) ao))) (af (aa 2) ao)))) ao)) ao)))
def mD (zeros plan ended leads way rd:Fn):FS:=ax (aA (au plan (af (aa 1) ao)) (gN 2)) (ax (aA (au ended (af (aa 1) ao)) (gN 3)) (ax (aA (aG aD (af (fC (.int 0)) (af (au zeros (af (aa 0) ao)) ao))) (gN 4)) (ax (aA (eR [(aa 4,fC .non)]) (gN 5)) (ax (aA (aG mkRef (af (aa 4) ao)) (gN 6)) (ax (iE 1000000 kP (lJ leads way)) (wI rd))))))
def aH (xs:List Rt)(r:aC):D:=.tup [.tup (kD (aP xs.length r.1)),.tup r.2]
theorem Cp {rd:Fn}{xs:List Rt}{p:Int}{es:List (aC×D)}{g:G}{d7 d8 d9:Option D}(hr:gH rd)(hl:xs.length<=100)(C:dC xs p es)(hle:es.length<=1000000) :
  wI rd (cT p xs g.length d7 d8 d9) (g ++ [dR es,[]])=some (.rt (.tup [.str "none",.tup ((keys es).map (aH xs))]),cT p xs g.length d7 d8 d9,g ++ [dR es,[]]):=by
 have hg:(g ++ [dR es,[]])[g.length]? = some (dR es):=by simp
 have hz:aF (keys es).length=true:=by unfold aF;exact decide_eq_true (by simp [keys];omega)
 have hk:aO (dR es)=(keys es).map rD:=by rw [Ar];simp [keys]
 have c1:=kL (f:=rD) (t:=gT 2 (aq (gN 1) (aq (gN 2) aK))) (e:=aG aD (af (au rd (af (aa 1) (af (au cU (af (aa 3) ao)) ao))) (af (aa 2) ao))) (h:=aH xs) hg hk (fun σ=>∃a b,σ = [none,a,b,some (.tup (xs.map rt))]) (by
  rintro r hm σ ⟨a,b,rfl⟩
  refine⟨[none,some (.int (r.1:Nat)),some (.tup r.2),some (.tup (xs.map rt))],by simp [rD],?_,⟨_,_,rfl⟩⟩
  have:=hr r.1 xs.length (g ++ [dR es,[]]) hl
  simp [bZ,this,aH]) (keys es).length [none,none,none,some (.tup (xs.map rt))] (Nat.le_refl _) ⟨_,_,rfl⟩
 rw [Nat.sub_self,List.drop_zero] at c1
 have kl:(aO (dR es)).length=(keys es).length:=by rw [hk];simp
 have sb:bu [none,none,none,some 1] (cT p xs g.length d7 d8 d9) = [none,none,none,some (.tup (xs.map rt))]:=rfl
 have i1:kX (aa 5) (cT p xs g.length d7 d8 d9) (g ++ [dR es,[]])=some (g.length,(keys es).length,g ++ [dR es,[]]):=by
  simp [kl]
 have cd:iN bB (kX (aa 5)) [none,none,none,some 1] (gT 2 (aq (gN 1) (aq (gN 2) aK))) bC (aG aD (af (au rd (af (aa 1) (af (au cU (af (aa 3) ao)) ao))) (af (aa 2) ao))) (cT p xs g.length d7 d8 d9) (g ++ [dR es,[]])=some (.lst ((keys es).map (aH xs)),g ++ [dR es,[]]):=by
  simp only [vZ,i1,Option.bind_some,hz,if_true,sb,c1]
  rfl
 have hz2:aF ((keys es).map (aH xs)).length=true:=by rw [List.length_map];exact hz
 unfold wI
 simp only [nj,vT,kY,gX,kH,tU,Option.bind_some,cd]
 simp [de,bZ]
 simp at hz2
 simp [hz2]
def EC (xs:List Rt)(p:Int)(d:D):Prop:=(flat d=true/\dep d<=60 /\ ∀n,bp n d=true)/\((∃ks r,d = .tup [.str "order",.tup (kD ks)]/\Path xs p ks r/\dw xs r.1=true)\/(∃ls,d = .tup [.str "none",.tup ls] /\ ∀ks r,Path xs p ks r->dw xs r.1=false))
theorem ko {xs:List Rt}{p:Int}{r:aC}(h:Rm p r):flat (aH xs r)=true/\dep (aH xs r)<=6 /\ ∀n,bp n (aH xs r)=true:=by
 obtain⟨h1,h2⟩:=mW (aP xs.length r.1)
 obtain⟨h3,h4⟩:=St.flat h
 have h3':aS r.2=true:=by simpa [flat] using h3
 have h4':bR r.2<=3:=by simp [dep] at h4;omega
 refine⟨by simp [aH,flat,aS,h1,h3'],by simp [aH,dep,bR,h2];omega,fun n=>?_⟩
 have h5:=qz h n
 simp [bp] at h5
 have h6:aT n (kD (aP xs.length r.1))=true:=cg fun x hx=>by
  obtain⟨k,_,rfl⟩:=List.mem_map.mp hx
  rfl
 simp [aH,bp,aT,h5,h6]
def zB (p:Int)(f:Fn):Prop:=∀xs g,(∀x∈xs,bx p x)->xs.length<=12->Clean g->∃d,f [.int p,.tup (xs.map rt)] g=some (d,g)/\EC xs p d
set_option maxHeartbeats 4000000 in
theorem EH {z pl en le wa rd:Fn}{p:Int}(p0:0<=p)(hz:mQ p z)(hp:pS p pl)(he:uk en)(hle:j8 p le)(hwa:∀xs,oK xs p wa)(hr:gH rd):zB p (aJ false 10 2 (mD z pl en le wa rd)):=fun xs g hx hl hc=>by
 have key:wp (aJ false 10 2 (mD z pl en le wa rd) [.int p,.tup (xs.map rt)] g) fun q=>q.2=g/\EC xs p q.1:=by
  refine fL rfl ?_
  have e1:=hp xs g hx (by omega) hc
  have e2:=he xs g (by omega)
  have e3:=hz g
  have fr:Rm p (first p):=St.zs p0
  have kk:=qU fr
  have C0:dC xs p [(first p,.non)]:=⟨fun e h=>by simp at h;subst h;exact fr,by simp,fun i e h=>by
    have:=(List.getElem?_eq_some_iff.mp h).1
    have hi:i=0:=by simpa using this
    subst hi
    simp at h
    exact .inl h.symm⟩
  have I0:LI xs p [(first p,.non)] [first p] 0:=⟨C0,by simp [keys],fun v hv=>by simpa [keys] using hv,fun v hv=>.inl (by simpa [keys] using hv),by simp⟩
  have h3:3 ^ xs.length<=3 ^ 12:=Nat.pow_le_pow_right (by omega) hl
  have h3':(3:Nat) ^ 12=531441:=by decide
  have lp:=loop p0 hx hl hle (hwa xs) hc 1000000 0 [(first p,.non)] [first p] none none none I0 (by omega)
  have pre:∀R,ax (iE 1000000 kP (lJ le wa)) (wI rd) (cT p xs g.length none none none) (g ++ [dR [(first p,.non)],[first p].map rD])=R->mD z pl en le wa rd [some (.int p),some (.tup (xs.map rt)),none,none,none,none,none,none,none,none] g=R:=fun R hR=>by
    have dn:eR [(aa 4,fC .non)] [some (.int p),some (.tup (xs.map rt)),some (.lst (d5 xs)),some (.int (i8 xs:Nat)),some (rD (first p)),none,none,none,none,none] g=some (.aI g.length,g ++ [dR [(first p,.non)]]):=by
     have sz:iu []=true:=by decide
     simp [eR,mP,L3.putAll,fE,kk,sz,bD,dR]
    have fd:rD (first p) = .tup [.int 0,.tup (zs p)]:=rfl
    rw [<- hR]
    unfold mD
    generalize ax (iE 1000000 kP (lJ le wa)) (wI rd)=rest
    rw [fd] at dn
    simp [e1,e2,e3,dn,fd]
    rfl
  show wp (mD z pl en le wa rd [some (.int p),some (.tup (xs.map rt)),none,none,none,none,none,none,none,none] g) _
  rcases lp with⟨σ',a,b,ks,r,e,h1,h2⟩ | ⟨es',d7,d8,d9,e,C',h1⟩
  . have:=pre (some (.rt (.tup [.str "order",.tup (kD ks)]),σ',g ++ [a,b])) (by simp only [dy,iE,e,Option.bind_some])
    rw [this]
    have kn:∀n,aT n (kD ks)=true:=fun n=>cg fun x hx=>by
     obtain⟨k,_,rfl⟩:=List.mem_map.mp hx
     rfl
    obtain⟨f1,f2⟩:=mW ks
    simp only [iK]
    refine⟨by simp [bp,aT,kn],by simpa using hc.all _,by simp,by simp,⟨by simp [flat,aS,f1],by simp [dep,bR,f2],fun n=>by simp [bp,aT,kn]⟩,.inl ⟨ks,r,rfl,h1,h2⟩⟩
  . have hle2:=C'.le p0 hx
    have e5:=Cp (g:=g) (d7:=d7) (d8:=d8) (d9:=d9) hr (by omega) C' (by omega)
    have:=pre (some (.rt (.tup [.str "none",.tup ((keys es').map (aH xs))]),cT p xs g.length d7 d8 d9,g ++ [dR es',[]])) (by simp only [dy,iE,e,Option.bind_some,e5])
    rw [this]
    have yy:∀x∈(keys es').map (aH xs),flat x=true/\dep x<=6 /\ ∀n,bp n x=true:=fun x hx=>by
     obtain⟨r,hr,rfl⟩:=List.mem_map.mp hx
     exact ko (C'.D1 hr)
    obtain⟨f1,f2⟩:=lh fun x hx=>⟨(yy x hx).1,(yy x hx).2.1⟩
    have kn:∀n,aT n ((keys es').map (aH xs))=true:=fun n=>cg fun x hx=>(yy x hx).2.2 n
    generalize (keys es').map (aH xs)=ls at *
    simp only [iK]
    refine⟨by simp [bp,aT,kn],by simpa using hc.all _,by simp,by simp,⟨by simp [flat,aS,f1],by simp [dep,bR];omega,fun n=>by simp [bp,aT,kn]⟩,.inr ⟨ls,rfl,fun ks r hp=>(h1.no hp).2⟩⟩
 obtain⟨⟨d,g'⟩,e,h1,h2⟩:=key
 dsimp only at h1 h2
 subst h1
 exact⟨d,e,h2⟩
theorem kO {f:Nat->Bool}{k:Nat}:∀{l:List Nat},l.Nodup->k∈l->f k=false->(l.filter fun i=>f i||decide (i=k)).Perm (l.filter f ++ [k])
 | a::l,hn,hm,hf=>by
  rw [List.nodup_cons] at hn
  by_cases e:a=k
  . subst e
    have h1:(l.filter fun i=>f i||decide (i=a))=l.filter f:=by
      refine List.filter_congr fun i hi=>?_
      have:¬i=a:=fun z=>hn.1 (z ▸ hi)
      simp [this]
    rw [List.filter_cons,List.filter_cons,h1]
    simp only [hf,decide_true,Bool.or_true,if_true,Bool.false_eq_true,if_false]
    exact(List.perm_append_comm (l₁:=[a])).trans (List.Perm.refl _)
  . have hm':k∈l:=by
      rcases List.mem_cons.mp hm with h | h
      . exact absurd h.symm e
      . exact h
    have ih:=kO hn.2 hm' hf
    rw [List.filter_cons,List.filter_cons]
    simp only [e,decide_false,Bool.or_false]
    split
    . exact ih.cons a
    . exact ih
theorem uS {xs:List Rt}{r:aC}{k:Nat}:aP xs.length (bA xs r k).1=(List.range xs.length).filter fun i=>r.1.testBit i||decide (i=k):=by
 unfold aP
 refine List.filter_congr fun i _=>?_
 rw [nA]
theorem x6 {xs:List Rt}{r:aC}{k:Nat}(hk:k<xs.length)(hb:r.1.testBit k=false):PySem.W.sortI ((aP xs.length r.1 ++ [k]).map fun(i:Nat)=>(i:Int))=(aP xs.length (bA xs r k).1).map fun(i:Nat)=>(i:Int):=by
 refine(PySem.W.eq_sortI ?_ ?_).symm
 . rw [uS]
   exact(kO List.nodup_range (List.mem_range.mpr hk) hb).map _
 . rw [List.pairwise_map]
   refine List.Pairwise.imp (R:=fun a b:Nat=>a<b) (fun h=>by omega) ?_
   exact List.Pairwise.filter _ List.pairwise_lt_range
theorem mM (ks:List Nat):(ks.map fun(i:Nat)=>(i:Int)).map D.int=kD ks:=by rw [List.map_map];rfl
theorem vU {xs:List Rt}{r:aC}{k:Nat}{g:G}(hl:xs.length<=50)(hk:k<xs.length)(hb:r.1.testBit k=false):cK [.tup (kD (aP xs.length r.1 ++ [k]))] g=some (.lst (kD (aP xs.length (bA xs r k).1)),g):=by
 show fU (kD (aP xs.length r.1 ++ [k])) g=_
 have hlen:(aP xs.length r.1).length<=xs.length:=by
  have:=List.length_filter_le (fun i=>r.1.testBit i) (List.range xs.length)
  simpa [aP] using this
 have h64:((aP xs.length r.1 ++ [k]).map fun(i:Nat)=>(i:Int)).length<64:=by simp;omega
 unfold fU
 rw [qc,Option.bind_some,if_pos h64,x6 hk hb,mM]
theorem iS {n b k:Nat}(hk:k<n):(aP n b).contains k=b.testBit k:=by
 unfold aP
 cases h:b.testBit k with
 | true=>simpa using ⟨hk,h⟩
 | false=>simp [h]
def Fj:FE:=bU bB (cY (aa 0)) [none,none,none,some 5] (gT 2 (aq (gN 1) (aq (gN 2) aK))) (cL (az (aj bO (aj aw (aa 2) (fC (.int 3))) (fC .non))) (az (aj oLe (aj aw (aa 2) (fC (.int 3))) (aj aw (aa 3) (fC (.int 2)))))) (aa 1)
def zk:FT:=ib (az (aj et (aa 4) (aa 1))) (gR (dg (au jO (af (bU bB (b_ (aa 6)) [none,none,some 1] (gN 1) bC (aj et (aa 1) (aa 2))) ao))))
def Dm:FS:=cc (bX isRef bG (aa 3) (af (aG aD (af (aj aM (aa 1) (aG aD (af (aa 4) ao))) (af (aj aM (aj aM (cQ (aa 2) cP (cf (aj aw (aj aw (aa 5) (fC (.int 1))) (fC (.int 1))))) (aG aD (af (aj aw (aj aw (aa 5) (fC (.int 1))) (fC (.int 2))) ao))) (cQ (aa 2) (cf (aj aM (aj aw (aj aw (aa 5) (fC (.int 1))) (fC (.int 1))) (fC (.int 1)))) cP)) ao))) ao))
def C3:FS:=cc (bX isRef bG (aa 3) (af (aG aD (af (aj aM (aa 1) (aG aD (af (aa 4) ao))) (af (aa 2) ao))) ao))
def D5:FS:=aA Fj (gN 6)
def wk:FS:=bH zk t9 aR
def uU:FT:=az (aj oEq (aj aw (aj aw (aa 5) (fC (.int 1))) (fC (.int 0))) (fC (.str "put")))
def CC:FT:=az (aj oEq (aj aw (aa 5) (fC (.int 4))) (aa 2))
def nV:FS:=ax D5 (ax wk (bH uU Dm (bH CC C3 aR)))
def Ek:FE:=da bB (gq (aa 3)) [none,none,none] (gT 2 (aq (gN 1) (aq (gN 2) aK))) bC (aG aD (af (au de (af (au cK (af (aa 1) ao)) ao)) (af (aa 2) ao)))
def tv:FS:=ax (aA (aG mkRef ao) (gN 3)) (ax (cI (cY (aa 0)) (gT 2 (aq (gN 4) (aq (gN 5) aK))) nV) (aQ Ek))
abbrev S7 (xs:List Rt)(r:aC)(m:Nat)(o4 o5 o6:Option D):Sg:=[some (.tup (xs.map rt)),some (.tup (kD (aP xs.length r.1))),some (.tup r.2),some (.ref m),o4,o5,o6]
theorem DC {xs:List Rt}{r:aC}{m k:Nat}{g:G}{o4 o6:Option D}(hl:xs.length<=100)(hk:k<xs.length):Fj (S7 xs r m o4 (some (rt (av xs k))) o6) g=some (.lst (kD (early xs k)),g):=by
 have hz:aF (b5 (xs.map rt)).length=true:=aL (by simp [b5];omega)
 have c1:=eX (f:=fun i:Nat=>.tup [.int (i:Nat),rt (av xs i)]) (t:=gT 2 (aq (gN 1) (aq (gN 2) aK))) (c:=cL (az (aj bO (aj aw (aa 2) (fC (.int 3))) (fC .non))) (az (aj oLe (aj aw (aa 2) (fC (.int 3))) (aj aw (aa 3) (fC (.int 2)))))) (e:=aa 1) (cB:=fun i=>cX (av xs i) (av xs k)) (h:=fun(i:Nat)=>D.int i) (fun σ=>∃a b,σ = [none,a,b,some (rt (av xs k))]) (List.range xs.length) [none,none,none,some (rt (av xs k))] g ⟨_,_,rfl⟩ (by
  rintro i hm σ ⟨a,b,rfl⟩
  refine⟨[none,some (.int i),some (rt (av xs i)),some (rt (av xs k))],by simp,?_,fun _=>by simp,⟨_,_,rfl⟩⟩
  rw [vf]
  cases he:(av xs i).1.e<;>simp [rt,mL,jZ,he,eD,isLit,cx])
 rw [<- kB] at c1
 have sb:bu [none,none,none,some 5] (S7 xs r m o4 (some (rt (av xs k))) o6) = [none,none,none,some (rt (av xs k))]:=rfl
 have c2:bW (gT 2 (aq (gN 1) (aq (gN 2) aK))) (cL (az (aj bO (aj aw (aa 2) (fC (.int 3))) (fC .non))) (az (aj oLe (aj aw (aa 2) (fC (.int 3))) (aj aw (aa 3) (fC (.int 2)))))) (aa 1) (b5 (xs.map rt)) [none,none,none,some (rt (av xs k))] g=some (kD (early xs k),g):=c1
 simp [Fj,sb,c2,hz]
theorem CP {xs:List Rt}{r:aC}{m k:Nat}{g:G}{o5:Option D}(hl:xs.length<=100)(hk:k<xs.length):zk (S7 xs r m (some (.int k)) o5 (some (.lst (kD (early xs k))))) g=some (!(!r.1.testBit k&&(early xs k).all fun o=>r.1.testBit o),g):=by
 have hll:(early xs k).length<=100:=by
  have:=List.length_filter_le (fun o=>cX (av xs o) (av xs k)) (List.range xs.length)
  simp at this
  unfold early
  omega
 have hz:aF (kD (early xs k)).length=true:=aL (by simp [kD];omega)
 have ik:=mI k (aP xs.length r.1) g
 rw [iS hk] at ik
 have c1:=fD (f:=fun(i:Nat)=>D.int i) (t:=gN 1) (c:=bC) (e:=aj et (aa 1) (aa 2)) (h:=fun i=>D.bl (r.1.testBit i)) (fun σ=>∃a,σ = [none,a,some (.tup (kD (aP xs.length r.1)))]) (early xs k) [none,none,some (.tup (kD (aP xs.length r.1)))] g ⟨_,rfl⟩ (by
  rintro i hm σ ⟨a,rfl⟩
  have hi:=List.mem_range.mp (List.mem_filter.mp hm).1
  have ii:=mI i (aP xs.length r.1) g
  rw [iS hi] at ii
  exact⟨[none,some (.int i),some (.tup (kD (aP xs.length r.1)))],by simp,by simp,by simp [ii],⟨_,rfl⟩⟩)
 have c2:bW (gN 1) bC (aj et (aa 1) (aa 2)) (kD (early xs k)) [none,none,some (.tup (kD (aP xs.length r.1)))] g=_:=c1
 have sb:bu [none,none,some 1] (S7 xs r m (some (.int k)) o5 (some (.lst (kD (early xs k))))) = [none,none,some (.tup (kD (aP xs.length r.1)))]:=rfl
 cases h1:r.1.testBit k with
 | true=>rw [h1] at ik;simp [zk,ik]
 | false =>
  rw [h1] at ik
  cases h2:(early xs k).all (fun o=>r.1.testBit o)<;>simp [zk,ik,sb,c2,hz,dX,List.all_map,Function.comp_def,h2]
def raw (xs:List Rt)(r:aC)(k:Nat):D:=.tup [.tup (kD (aP xs.length r.1 ++ [k])),.tup (cj r.2 (av xs k).1.dd)]
theorem p8 (n b:Nat):(aP n b).length<=n:=by
 have:=List.length_filter_le (fun i=>b.testBit i) (List.range n)
 simpa [aP] using this
theorem EM {p:Int}{xs:List Rt}{r:aC}{k:Nat}{g:G}{acc:List D}{o6:Option D}(hx:∀x∈xs,bx p x)(hp:p<=100)(hl:xs.length<=50)(hs:St p r.2)(hk:k<xs.length)(ha:acc.length<=500) :
  ∃F':F,(F' = .nx\/F' = .ct)/\nV (S7 xs r g.length (some (.int k)) (some (rt (av xs k))) o6) (g ++ [acc])=some (F',S7 xs r g.length (some (.int k)) (some (rt (av xs k))) (some (.lst (kD (early xs k)))),g ++ [acc++if cb xs r k then [raw xs r k] else []]):=by
 have hxk:=hx _ (cq hk)
 have e1:=DC (r:=r) (m:=g.length) (g:=g ++ [acc]) (o4:=some (.int k)) (o6:=o6) (by omega) hk
 have e2:=CP (r:=r) (m:=g.length) (g:=g ++ [acc]) (o5:=some (rt (av xs k))) (show xs.length<=100 by omega) hk
 have as:D5 (S7 xs r g.length (some (.int k)) (some (rt (av xs k))) o6) (g ++ [acc])=some (.nx,S7 xs r g.length (some (.int k)) (some (rt (av xs k))) (some (.lst (kD (early xs k)))),g ++ [acc]):=by
  simp [D5,e1]
 obtain⟨f1,f2⟩:=bx.oP hxk
 obtain⟨f3,f4⟩:=St.flat hs
 have f2':dep (av xs k).2<=60:=by omega
 have f5:aS r.2=true:=by simpa [L3.flat] using f3
 have hl2:=hs.1
 have bl:=p8 xs.length r.1
 have hz:aF (acc.length+1)=true:=aL (by omega)
 have hzk:aF ((kD (aP xs.length r.1)).length+1)=true:=aL (by simp [kD];omega)
 have kap:kD (aP xs.length r.1) ++ [D.int (k:Nat)]=kD (aP xs.length r.1 ++ [k]):=by simp [kD]
 have ad:aM (.tup (kD (aP xs.length r.1))) (.tup [.int (k:Nat)]) (g ++ [acc])=some (.tup (kD (aP xs.length r.1 ++ [k])),g ++ [acc]):=by
  rw [<- kap]
  simp [hzk]
 cases hc:(!r.1.testBit k&&(early xs k).all fun o=>r.1.testBit o) with
 | false =>
  rw [hc] at e2
  have cn:cb xs r k=false:=by
    unfold cb
    rw [<- Bool.and_assoc,hc];rfl
  refine⟨.ct,.inr rfl,?_⟩
  have ei:wk (S7 xs r g.length (some (.int k)) (some (rt (av xs k))) (some (.lst (kD (early xs k))))) (g ++ [acc])=some (.ct,S7 xs r g.length (some (.int k)) (some (rt (av xs k))) (some (.lst (kD (early xs k)))),g ++ [acc]):=by
    simp [wk,e2]
    rfl
  simp [nV,as,ei,cn]
 | true =>
  rw [hc] at e2
  have cn:cb xs r k=fH (av xs k) r.2:=by
    unfold cb
    rw [<- Bool.and_assoc,hc];rfl
  refine⟨.nx,.inl rfl,?_⟩
  rw [cn]
  have ei:wk (S7 xs r g.length (some (.int k)) (some (rt (av xs k))) (some (.lst (kD (early xs k))))) (g ++ [acc])=some (.nx,S7 xs r g.length (some (.int k)) (some (rt (av xs k))) (some (.lst (kD (early xs k)))),g ++ [acc]):=by
    simp [wk,e2]
  generalize early xs k=ea at *
  rcases hxk.r.dd with hd | ⟨c,v,hd,c0,c1,hv⟩
  . have lk:ck (av xs k).1.dd=true:=by rw [hd];rfl
    have t1:uU (S7 xs r g.length (some (.int k)) (some (rt (av xs k))) (some (.lst (kD ea)))) (g ++ [acc])=some (false,g ++ [acc]):=by
     simp [uU,rt,dD,cR,hd,Pd.eq_str,flat,dep,r6]
    have t2:CC (S7 xs r g.length (some (.int k)) (some (rt (av xs k))) (some (.lst (kD ea)))) (g ++ [acc])=some (aB (av xs k).2 (.tup r.2),g ++ [acc]):=by
     have oe:oEq (av xs k).2 (.tup r.2) (g ++ [acc])=some (.bl (aB (av xs k).2 (.tup r.2)),g ++ [acc]):=by unfold oEq;rw [if_pos];simp [f1,f2',f3]
     simp [CC,rt,nG,oe]
    have ps:cj r.2 (av xs k).1.dd=r.2:=by rw [hd];rfl
    have ox:fH (av xs k) r.2=aB (av xs k).2 (.tup r.2):=by simp [fH,lk]
    rw [ox]
    cases he:aB (av xs k).2 (.tup r.2) with
    | false =>
     rw [he] at t2
     simp [nV,as,ei,t1,t2]
    | true =>
     rw [he] at t2
     have bL:C3 (S7 xs r g.length (some (.int k)) (some (rt (av xs k))) (some (.lst (kD ea)))) (g ++ [acc])=some (.nx,S7 xs r g.length (some (.int k)) (some (rt (av xs k))) (some (.lst (kD ea))),g ++ [acc ++ [raw xs r k]]):=by
      unfold raw
      rw [ps]
      simp only [C3,x5,rM,fS,gX,kH,vT,pL,List.getElem?_cons_succ,List.getElem?_cons_zero,Option.bind_some]
      simp [aD,kap,hzk,hz]
     simp [nV,as,ei,t1,t2,bL]
  . have lk:ck (av xs k).1.dd=false:=by rw [hd];simp [ck,nJ]
    have ox:fH (av xs k) r.2=true:=by simp [fH,lk]
    rw [ox]
    have t1:uU (S7 xs r g.length (some (.int k)) (some (rt (av xs k))) (some (.lst (kD ea)))) (g ++ [acc])=some (true,g ++ [acc]):=by
     simp [uU,rt,dD,cR,hd,Pd.eq_str,flat,dep]
    obtain⟨cn',rfl⟩:∃cn':Nat,c=cn':=⟨c.toNat,by omega⟩
    have hcl:cn' < r.2.length:=by omega
    have s1:eu (.tup r.2) none (some (cn':Int)) (g ++ [acc])=some (.tup (r.2.take cn'),g ++ [acc]):=eM (mv hcl)
    have s2:eu (.tup r.2) (some ((cn':Int)+1)) none (g ++ [acc])=some (.tup (r.2.drop (cn'+1)),g ++ [acc]):=eM (iQ hcl)
    have y1:aF (min cn' r.2.length+1)=true:=aL (by omega)
    have y2:aF (min cn' r.2.length+1+(r.2.length-(cn'+1)))=true:=aL (by omega)
    have bP:Dm (S7 xs r g.length (some (.int k)) (some (rt (av xs k))) (some (.lst (kD ea)))) (g ++ [acc])=some (.nx,S7 xs r g.length (some (.int k)) (some (rt (av xs k))) (some (.lst (kD ea))),g ++ [acc ++ [raw xs r k]]):=by
     unfold raw
     rw [hd]
     simp [Dm,rt,hd,cR,dD,jZ,cj,s1,s2,y1,y2,kap,hzk,hz]
    simp [nV,as,ei,t1,bP]
theorem wQ {p:Int}{xs:List Rt}{r:aC}{g:G}(hx:∀x∈xs,bx p x)(hp:p<=100)(hl:xs.length<=50)(hs:St p r.2):∀(rest:List Nat) (acc:List D) (o4 o5 o6:Option D),(∀k∈rest,k<xs.length)->acc.length+rest.length<=400 ->
  ∃o4' o5' o6',forL (gT 2 (aq (gN 4) (aq (gN 5) aK))) nV (rest.map fun i=>.tup [.int (i:Nat),rt (av xs i)]) (S7 xs r g.length o4 o5 o6) (g ++ [acc])=some (.nx,S7 xs r g.length o4' o5' o6',g ++ [acc++(rest.filter (cb xs r)).map (raw xs r)])
 | [],acc,o4,o5,o6,_,_=>⟨o4,o5,o6,by simp [forL]⟩
 | k::rest,acc,o4,o5,o6,h,hz=>by
  have hk:=h k (by simp)
  obtain⟨F',hF,e1⟩:=EM (g:=g) (acc:=acc) (o6:=o6) hx hp hl hs hk (by omega)
  have tg:gT 2 (aq (gN 4) (aq (gN 5) aK)) (.tup [.int (k:Nat),rt (av xs k)]) (S7 xs r g.length o4 o5 o6) (g ++ [acc])=some (S7 xs r g.length (some (.int k)) (some (rt (av xs k))) o6,g ++ [acc]):=by simp
  have hz2:(acc++if cb xs r k then [raw xs r k] else []).length+rest.length<=400:=by
   simp at hz ⊢
   split<;>simp<;>omega
  obtain⟨o4',o5',o6',ih⟩:=wQ (g:=g) hx hp hl hs rest (acc++if cb xs r k then [raw xs r k] else []) (some (.int k)) (some (rt (av xs k))) (some (.lst (kD (early xs k)))) (fun j hj=>h j (by simp [hj])) hz2
  refine⟨o4',o5',o6',?_⟩
  have el:acc++((k::rest).filter (cb xs r)).map (raw xs r)=(acc++if cb xs r k then [raw xs r k] else [])++(rest.filter (cb xs r)).map (raw xs r):=by
   rw [List.filter_cons]
   split<;>simp
  rw [el,<- ih,List.map_cons]
  rcases hF with rfl | rfl<;>simp only [forL,tg,Option.bind_some,e1]
def sU (xs:List Rt)(r:aC):List D:=((List.range xs.length).filter (cb xs r)).map fun k=>aH xs (bA xs r k)
def uM (p:Int)(f:Fn):Prop:=∀xs r g,(∀x∈xs,bx p x)->xs.length<=50->St p r.2->Clean g->f [.tup (xs.map rt),.tup (kD (aP xs.length r.1)),.tup r.2] g=some (.lst (sU xs r),g)
theorem Dd {xs:List Rt}{r:aC}{g:G}{ks:List Nat}{o4 o5 o6:Option D}(hl:xs.length<=50)(hks:ks.length<=100)(h:∀k∈ks,k<xs.length/\cb xs r k=true):Ek (S7 xs r g.length o4 o5 o6) (g ++ [ks.map (raw xs r)])=some (.lst (ks.map fun k=>aH xs (bA xs r k)),g ++ [ks.map (raw xs r)]):=by
 have hg:(g ++ [ks.map (raw xs r)])[g.length]? = some (ks.map (raw xs r)):=by simp
 have hz:aF ks.length=true:=aL (by omega)
 have c1:=gJ (f:=raw xs r) (t:=gT 2 (aq (gN 1) (aq (gN 2) aK))) (c:=bC) (cB:=fun _=>true) (e:=aG aD (af (au de (af (au cK (af (aa 1) ao)) ao)) (af (aa 2) ao))) (h:=fun k=>aH xs (bA xs r k)) (xs:=ks) hg (fun σ=>∃a b,σ = [none,a,b]) (by
  rintro k hm σ ⟨a,b,rfl⟩
  obtain⟨h1,h2⟩:=h k hm
  have hb:r.1.testBit k=false:=by
   simp only [cb,Bool.and_eq_true,Bool.not_eq_true'] at h2
   exact h2.1
  have so:=vU (g:=g ++ [ks.map (raw xs r)]) hl h1 hb
  have bl:=p8 xs.length (bA xs r k).1
  have hz2:aF (kD (aP xs.length (bA xs r k).1)).length=true:=aL (by simp [kD];omega)
  refine⟨[none,some (.tup (kD (aP xs.length r.1 ++ [k]))),some (.tup (cj r.2 (av xs k).1.dd))],by simp [raw],by simp,fun _=>?_,⟨_,_,rfl⟩⟩
  have ny:aH xs (bA xs r k) = .tup [.tup (kD (aP xs.length (bA xs r k).1)),.tup (cj r.2 (av xs k).1.dd)]:=rfl
  rw [ny]
  generalize kD (aP xs.length (bA xs r k).1)=kk at *
  simp [so,de,bZ,hz2]) ks.length [none,none,none] (Nat.le_refl _) ⟨_,_,rfl⟩
 have ft:ks.filter (fun _=>true)=ks:=by simp
 rw [Nat.sub_self,List.drop_zero,ft] at c1
 have sb:bu [none,none,none] (S7 xs r g.length o4 o5 o6) = [none,none,none]:=rfl
 have v3:aa 3 (S7 xs r g.length o4 o5 o6) (g ++ [ks.map (raw xs r)])=some (.ref g.length,g ++ [ks.map (raw xs r)]):=rfl
 unfold Ek
 simp only [j5,nz,v3,Option.bind_some,hg,List.length_map,hz,if_true,sb,c1]
 rfl
theorem Gf {p:Int}(hp:p<=100):uM p (aJ false 7 3 tv):=fun xs r g hx hl hs hc=>by
 have key:wp (aJ false 7 3 tv [.tup (xs.map rt),.tup (kD (aP xs.length r.1)),.tup r.2] g) fun q=>q=(.lst (sU xs r),g):=by
  refine fL rfl ?_
  obtain⟨o4,o5,o6,e⟩:=wQ (r:=r) (g:=g) hx hp hl hs (List.range xs.length) [] none none none (fun k hk=>List.mem_range.mp hk) (by simp;omega)
  rw [<- kB,List.nil_append] at e
  have hfl:((List.range xs.length).filter (cb xs r)).length<=100:=by
   have:=List.length_filter_le (cb xs r) (List.range xs.length)
   simp at this
   omega
  have e2:=Dd (r:=r) (g:=g) (ks:=(List.range xs.length).filter (cb xs r)) (o4:=o4) (o5:=o5) (o6:=o6) hl hfl (fun k hk=>⟨List.mem_range.mp (List.mem_filter.mp hk).1,(List.mem_filter.mp hk).2⟩)
  have e':tv [some (.tup (xs.map rt)),some (.tup (kD (aP xs.length r.1))),some (.tup r.2),none,none,none,none] g=some (.rt (.lst (sU xs r)),S7 xs r g.length o4 o5 o6,g ++ [((List.range xs.length).filter (cb xs r)).map (raw xs r)]):=by
   have e0:forL (gT 2 (aq (gN 4) (aq (gN 5) aK))) nV (b5 (xs.map rt)) [some (.tup (xs.map rt)),some (.tup (kD (aP xs.length r.1))),some (.tup r.2),some (.ref g.length),none,none,none] (g ++ [[]])=_:=e
   simp [tv,e0,e2]
   rfl
  have yy:∀n,aT n (sU xs r)=true:=fun n=>cg fun d hd=>by
   obtain⟨k,hk,rfl⟩:=List.mem_map.mp hd
   have hk':=List.mem_range.mp (List.mem_filter.mp hk).1
   exact(ko (p:=p) (r:=bA xs r k) (St.put hs (hx _ (cq hk')).r.dd)).2.2 n
  refine⟨_,e',by simpa [bp] using yy g.length,by simpa using hc.all _,by simp,by simp⟩
 obtain⟨q,e,rfl⟩:=key
 exact e
def Rn (xs:List Rt)(p:Int)(r:aC):Prop:=St p r.2/\r.1<2 ^ xs.length
theorem Path.rn {xs:List Rt}{p:Int}{ks:List Nat}{r:aC}(p0:0<=p)(hx:∀x∈xs,bx p x)(h:Path xs p ks r):Rn xs p r:=by
 refine⟨?_,?_⟩
 . induction h with
   | nil=>exact St.zs p0
   | snoc _ hk _ ih=>exact St.put ih (hx _ (cq hk)).r.dd
 . refine Nat.lt_pow_two_of_testBit _ fun i hi=>?_
   rw [h.bits]
   cases hc:ks.contains i with
   | false=>rfl
   | true =>
    have:=h.lt i (by simpa using hc)
    omega
theorem wm {n b c:Nat}(hb:b<2 ^ n)(hc:c<2 ^ n)(h:aP n b=aP n c):b=c:=by
 refine Nat.eq_of_testBit_eq fun i=>?_
 by_cases hi:i<n
 . rw [<- iS hi,<- iS hi,h]
 . have h2:2 ^ n<=2 ^ i:=Nat.pow_le_pow_right (by omega) (by omega)
   rw [Nat.testBit_lt_two_pow (by omega),Nat.testBit_lt_two_pow (by omega)]
theorem D0 {a b:List Nat}:bY (kD a) (kD b)=true ↔ a=b:=by
 rw [<- mM,<- mM,jK,decide_eq_true_eq]
 constructor
 . intro h
   have:=congrArg (List.map Int.toNat) h
   simpa [List.map_map,Function.comp_def] using this
 . rintro rfl;rfl
theorem Au {xs:List Rt}{p:Int}{r s:aC}(hr:Rn xs p r)(hs:Rn xs p s):aB (aH xs r) (aH xs s)=true ↔ r=s:=by
 have h1:=j_ (P:=fun d=>isVal 3 d=true) (fun d e=>mX 3 d e) r.2 s.2 hr.1.2 hs.1.2
 have e1:aB (aH xs r) (aH xs s)=(bY (kD (aP xs.length r.1)) (kD (aP xs.length s.1))&&bY r.2 s.2):=by
   show aB (.tup [.tup (kD (aP xs.length r.1)),.tup r.2]) (.tup [.tup (kD (aP xs.length s.1)),.tup s.2])=_
   rw [iO]
   show(aB (.tup _) (.tup _)&&(aB (.tup r.2) (.tup s.2)&&bY [] []))=_
   rw [iO,iO]
   simp [bY]
 rw [e1,Bool.and_eq_true,h1,D0]
 constructor
 . rintro⟨h2,h3⟩;exact Prod.ext (wm hr.2 hs.2 h2) h3
 . rintro rfl;exact⟨rfl,rfl⟩
theorem qt {xs:List Rt}{p:Int}{r:aC}(hr:Rn xs p r):bf 6 (aH xs r)=true:=by
 have h1:∀ys:List D,(∀y∈ys,isVal 3 y=true)->cJ 4 ys=true:=fun ys=>by
  induction ys with
  | nil=>intro _;simp [cJ]
  | cons y ys ih=>intro hy;simp [cJ,nE 3 3 y (hy y (by simp)) (by omega),ih fun z hz=>hy z (by simp [hz])]
 have h2:∀ks:List Nat,cJ 4 (kD ks)=true:=fun ks=>by
  induction ks with
  | nil=>simp [cJ,kD]
  | cons k ks ih=>simp only [kD,List.map_cons] at ih ⊢;simp [cJ,ih,bf]
 simp [aH,bf,cJ,h1 r.2 hr.1.2,h2]
def dN (xs:List Rt):List aC->List D
 | []=>[]
 | r::W=>aH xs r :: .bl true::dN xs W
theorem CV (xs:List Rt)(W:List aC):(dN xs W).length=2*W.length:=by
 induction W with
 | nil=>rfl
 | cons r W ih=>simp [dN,ih];omega
theorem zF {xs:List Rt}{p:Int}{r:aC}(hr:Rn xs p r):∀{W:List aC},(∀v∈W,Rn xs p v)->(r∈W->(aV (dN xs W) (aH xs r)).isSome=true)/\(r ∉ W->(aV (dN xs W) (aH xs r)).isSome=false/\bD (dN xs W) (aH xs r) (.bl true)=dN xs (W ++ [r]))
 | [],_=>⟨(fun h=>by cases h),fun _=>⟨rfl,rfl⟩⟩
 | v::W,h=>by
  obtain⟨i1,i2⟩:=zF hr (W:=W) fun w hw=>h w (by simp [hw])
  have he:=Au (h v (by simp)) hr
  by_cases hv:v=r
  . subst hv
    refine⟨fun _=>by simp only [dN,aV];rw [if_pos (he.mpr rfl)];rfl,fun z=>absurd (by simp) z⟩
  . have hn:aB (aH xs v) (aH xs r)=false:=by
      cases hq:aB (aH xs v) (aH xs r) with
      | false=>rfl
      | true=>exact absurd (he.mp hq) hv
    refine⟨fun z=>?_,fun z=>?_⟩
    . simp only [dN,aV,hn,Bool.false_eq_true,if_false]
      refine i1 ?_
      rcases List.mem_cons.mp z with z | z
      . exact absurd z.symm hv
      . exact z
    . obtain⟨j1,j2⟩:=i2 fun q=>z (by simp [q])
      refine⟨by simp only [dN,aV,hn,Bool.false_eq_true,if_false];exact j1,?_⟩
      simp only [dN,bD,hn,Bool.false_eq_true,if_false,j2,List.cons_append]
def p5:FS:=bH (az (aj cW (aa 5) (aa 4))) (ax (aA (fC (.bl true)) (dB (aa 4) (aa 5))) (cc (bX isRef bG (aa 2) (af (aa 5) ao)))) aR
def zE:FT:=az (aj oLt (aa 3) (au cU (af (aa 2) ao)))
def y6 (bh:Fn):FS:=cI (b_ (au bh (af (aa 1) (af (aj aw (aj aw (aa 2) (aa 3)) (fC (.int 0))) (af (aj aw (aj aw (aa 2) (aa 3)) (fC (.int 1))) ao))))) (gN 5) p5
def za:FS:=aA (aj aM (aa 3) (fC (.int 1))) (gN 3)
def CF:FS:=lr 2 3 (af (aG mkRef (af (aG aD (af (aG aD ao) (af (aj bM (aG aD (af (fC (.int 0)) ao)) (aa 0)) ao))) ao)) (af (fC (.int 0)) ao))
def E3:FS:=aA (eR [(aj aw (aa 2) (fC (.int 0)),fC (.bl true))]) (gN 4)
def Hi (bh:Fn):FS:=iE 1000000 zE (ax (y6 bh) za)
def oH (bh:Fn):FS:=ax CF (ax E3 (ax (Hi bh) (aQ (aa 2))))
abbrev S6 (p:Int)(xs:List Rt)(n:Nat)(c:Nat)(o5:Option D):Sg:=[some (.int p),some (.tup (xs.map rt)),some (.ref n),some (.int (c:Nat)),some (.aI (n+1)),o5]
structure Wt (xs:List Rt)(p:Int)(W:List aC):Prop where
 nd:W.Nodup
 ph:∀r∈W,∃ks,Path xs p ks r
theorem Wt.rn {xs:List Rt}{p:Int}{W:List aC}(h:Wt xs p W)(p0:0<=p)(hx:∀x∈xs,bx p x):∀r∈W,Rn xs p r:=fun r hr=>by
 obtain⟨ks,hk⟩:=h.ph r hr
 exact hk.rn p0 hx
theorem Wt.le {xs:List Rt}{p:Int}{W:List aC}(h:Wt xs p W)(p0:0<=p)(hx:∀x∈xs,bx p x):W.length<=3 ^ xs.length:=pX p0 hx h.nd h.ph
theorem nu {xs:List Rt}{p:Int}(p0:0<=p)(hx:∀x∈xs,bx p x)(hl:xs.length<=12){g:G}{r:aC}{c:Nat}:∀(ks:List Nat) (W:List aC) (o5:Option D),(∀k∈ks,k<xs.length/\cb xs r k=true)->Wt xs p W->r∈W ->
  ∃N o5',forL (gN 5) p5 (ks.map fun k=>aH xs (bA xs r k)) (S6 p xs g.length c o5) (g ++ [W.map (aH xs),dN xs W])=some (.nx,S6 p xs g.length c o5',g ++ [(W++N).map (aH xs),dN xs (W++N)])/\Wt xs p (W++N) /\ ∀k∈ks,bA xs r k∈W++N
 | [],W,o5,_,h,_=>⟨[],o5,by simp [forL],by simpa using h,by simp⟩
 | k::ks,W,o5,h,w,hr=>by
  obtain⟨hk,hc⟩:=h k (by simp)
  obtain⟨kr,hkr⟩:=w.ph r hr
  have hp:=Path.snoc hkr hk hc
  have hn:=hp.rn p0 hx
  have kk:=qt hn
  obtain⟨i1,i2⟩:=zF hn (w.rn p0 hx)
  have tg:gN 5 (aH xs (bA xs r k)) (S6 p xs g.length c o5) (g ++ [W.map (aH xs),dN xs W])=some (S6 p xs g.length c (some (aH xs (bA xs r k))),g ++ [W.map (aH xs),dN xs W]):=by simp
  by_cases hm:bA xs r k∈W
  . have hg:=i1 hm
    have bd:p5 (S6 p xs g.length c (some (aH xs (bA xs r k)))) (g ++ [W.map (aH xs),dN xs W])=some (.nx,S6 p xs g.length c (some (aH xs (bA xs r k))),g ++ [W.map (aH xs),dN xs W]):=by
      generalize aH xs (bA xs r k)=y at *
      simp [p5,kk,hg]
    obtain⟨N,o5',e1,w',h'⟩:=nu p0 hx hl (g:=g) (c:=c) ks W (some (aH xs (bA xs r k))) (fun j hj=>h j (by simp [hj])) w hr
    refine⟨N,o5',?_,w',fun j hj=>?_⟩
    . rw [<- e1,List.map_cons]
      simp only [forL,tg,Option.bind_some,bd]
    . rcases List.mem_cons.mp hj with rfl | hj
      . exact List.mem_append.mpr (.inl hm)
      . exact h' j hj
  . obtain⟨hg,hpu⟩:=i2 hm
    have hle:=w.le p0 hx
    have h3:3 ^ xs.length<=3 ^ 12:=Nat.pow_le_pow_right (by omega) hl
    have h3':(3:Nat) ^ 12=531441:=by decide
    have hs:iu (dN xs W)=true:=by unfold iu aF;exact decide_eq_true (by rw [CV];omega)
    have hz:aF (W.length+1)=true:=by unfold aF;exact decide_eq_true (by omega)
    have w2:Wt xs p (W ++ [bA xs r k]):=⟨by
      rw [List.nodup_append]
      exact⟨w.nd,by simp,fun a ha b hb z=>by simp at hb;subst hb;subst z;exact hm ha⟩,fun v hv=>by
      rcases List.mem_append.mp hv with hv | hv
      . exact w.ph v hv
      . simp at hv;subst hv;exact⟨_,hp⟩⟩
    have bd:p5 (S6 p xs g.length c (some (aH xs (bA xs r k)))) (g ++ [W.map (aH xs),dN xs W])=some (.nx,S6 p xs g.length c (some (aH xs (bA xs r k))),g ++ [(W ++ [bA xs r k]).map (aH xs),dN xs (W ++ [bA xs r k])]):=by
      rw [List.map_append,List.map_singleton,<- hpu]
      generalize aH xs (bA xs r k)=y at *
      simp [p5,kk,hg,hs,hz,List.set_append]
    obtain⟨N,o5',e1,w',h'⟩:=nu p0 hx hl (g:=g) (c:=c) ks (W ++ [bA xs r k]) (some (aH xs (bA xs r k))) (fun j hj=>h j (by simp [hj])) w2 (List.mem_append.mpr (.inl hr))
    rw [List.append_assoc] at e1 w' h'
    refine⟨[bA xs r k]++N,o5',?_,w',fun j hj=>?_⟩
    . rw [<- e1,List.map_cons]
      simp only [forL,tg,Option.bind_some,bd]
    . rcases List.mem_cons.mp hj with rfl | hj
      . simp
      . exact h' j hj
def kj (xs:List Rt)(p:Int)(W:List aC):Prop:=first p∈W /\ ∀v∈W,∀k<xs.length,cb xs v k=true->bA xs v k∈W
theorem kj.all {xs p W}(h:kj xs p W){ks:List Nat}{r:aC}(hp:Path xs p ks r):r∈W:=by
 induction hp with
 | nil=>exact h.1
 | snoc _ hk hc ih=>exact h.2 _ ih _ hk hc
theorem oa {xs:List Rt}{p:Int}{W:List aC}(h:∀r∈W,Rn xs p r)(n:Nat):aT n (W.map (aH xs))=true:=cg fun d hd=>by
 obtain⟨v,hv,rfl⟩:=List.mem_map.mp hd
 exact(ko (p:=p) (h v hv).1).2.2 n
theorem BO {xs:List Rt}{p:Int}{W:List aC}(h:∀r∈W,Rn xs p r)(n:Nat):aT n (dN xs W)=true:=by
 induction W with
 | nil=>rfl
 | cons v W ih =>
  have:=(ko (xs:=xs) (p:=p) (h v (by simp)).1).2.2 n
  simp [dN,aT,this,bp,ih fun r hr=>h r (by simp [hr])]
set_option maxHeartbeats 4000000 in
theorem u_ {bh:Fn}{xs:List Rt}{p:Int}(p0:0<=p)(hx:∀x∈xs,bx p x)(hl:xs.length<=12)(hb:uM p bh){g:G}(hc:Clean g):∀(f c:Nat) (W:List aC) (o5:Option D),Wt xs p W->first p∈W->c<=W.length->(∀i<c,∀r,W[i]? = some r->∀k<xs.length,cb xs r k=true->bA xs r k∈W)->3 ^ xs.length+1<=f+c ->
  ∃W' c' o5',fJ zE (ax (y6 bh) za) f (S6 p xs g.length c o5) (g ++ [W.map (aH xs),dN xs W])=some (.nx,S6 p xs g.length c' o5',g ++ [W'.map (aH xs),dN xs W'])/\Wt xs p W'/\kj xs p W'
 | 0,c,W,o5,w,_,h2,_,hf=>by
  have:=w.le p0 hx
  omega
 | f+1,c,W,o5,w,h1,h2,h3,hf=>by
  have ec:zE (S6 p xs g.length c o5) (g ++ [W.map (aH xs),dN xs W])=some (decide (c<W.length),g ++ [W.map (aH xs),dN xs W]):=by
    have:((c:Int)<(W.length:Int)) ↔ c<W.length:=by omega
    simp [zE,bZ]
  by_cases hcl:c<W.length
  . have hcd:decide (c<W.length)=true:=by simp [hcl]
    rw [hcd] at ec
    obtain⟨r,hr⟩:∃r,W[c]? = some r:=⟨_,List.getElem?_eq_getElem hcl⟩
    have hrm:r∈W:=List.mem_of_getElem? hr
    have hrn:=w.rn p0 hx
    have j0:=fA (xs:=W.map (aH xs)) (n:=c) (d:=aH xs r) (by simp [hr])
    have cl:Clean (g ++ [W.map (aH xs),dN xs W]):=wF hc (fun n=>oa hrn n) (fun n=>BO hrn n)
    have eb:=hb xs r (g ++ [W.map (aH xs),dN xs W]) hx (by omega) (hrn r hrm).1 cl
    obtain⟨N,o5',e1,w',h'⟩:=nu p0 hx hl (g:=g) (c:=c) ((List.range xs.length).filter (cb xs r)) W o5 (fun k hk=>⟨List.mem_range.mp (List.mem_filter.mp hk).1,(List.mem_filter.mp hk).2⟩) w hrm
    have eF:y6 bh (S6 p xs g.length c o5) (g ++ [W.map (aH xs),dN xs W])=some (.nx,S6 p xs g.length c o5',g ++ [(W++N).map (aH xs),dN xs (W++N)]):=by
      have e2:forL (gN 5) p5 (sU xs r) (S6 p xs g.length c o5) (g ++ [W.map (aH xs),dN xs W])=_:=e1
      have i1:b_ (au bh (af (aa 1) (af (aj aw (aj aw (aa 2) (aa 3)) (fC (.int 0))) (af (aj aw (aj aw (aa 2) (aa 3)) (fC (.int 1))) ao)))) (S6 p xs g.length c o5) (g ++ [W.map (aH xs),dN xs W])=some (sU xs r,g ++ [W.map (aH xs),dN xs W]):=by
        have a0:(g ++ [W.map (aH xs),dN xs W])[g.length]? = some (W.map (aH xs)):=by simp
        have ny:aH xs r = .tup [.tup (kD (aP xs.length r.1)),.tup r.2]:=rfl
        rw [ny] at j0
        have ox:iL (.ref g.length) (.int (c:Nat)) (g ++ [W.map (aH xs),dN xs W])=some (.tup [.tup (kD (aP xs.length r.1)),.tup r.2],g ++ [W.map (aH xs),dN xs W]):=by
         simp [iL,bZ,j0]
        simp only [b_,kY,gX,kH,fS,pL,tU,List.getElem?_cons_succ,List.getElem?_cons_zero,Option.bind_some,rP,ox]
        simp [cR,dD,j0,eb]
      simp only [y6,mZ,i1,Option.bind_some,e2]
    have eN:za (S6 p xs g.length c o5') (g ++ [(W++N).map (aH xs),dN xs (W++N)])=some (.nx,S6 p xs g.length (c+1) o5',g ++ [(W++N).map (aH xs),dN xs (W++N)]):=by
      simp [za]
    obtain⟨W',c',q5,e3,w3,c3⟩:=u_ p0 hx hl hb hc f (c+1) (W++N) o5' w' (List.mem_append.mpr (.inl h1)) (by simp;omega) (fun i hi r' hr' k hk hk2=>by
      by_cases hic:i<c
      . rw [List.getElem?_append_left (by omega)] at hr'
        exact List.mem_append.mpr (.inl (h3 i hic r' hr' k hk hk2))
      . have:i=c:=by omega
        subst this
        rw [List.getElem?_append_left hcl,hr] at hr'
        cases hr'
        exact h' k (List.mem_filter.mpr ⟨List.mem_range.mpr hk,hk2⟩)) (by omega)
    refine⟨W',c',q5,?_,w3,c3⟩
    rw [<- e3]
    simp only [fJ,ec,Option.bind_some,if_true,dy,eF,eN]
  . have hcd:decide (c<W.length)=false:=by simp [hcl]
    rw [hcd] at ec
    refine⟨W,c,o5,?_,w,h1,fun v hv k hk hk2=>?_⟩
    . simp only [fJ,ec,Option.bind_some]
      simp
    . obtain⟨i,hi⟩:=List.mem_iff_getElem?.mp hv
      have:=(List.getElem?_eq_some_iff.mp hi).1
      exact h3 i (by omega) v hi k hk hk2
def y_ (p:Int)(f:Fn):Prop:=∀xs g,(∀x∈xs,bx p x)->xs.length<=12->Clean g->∃W,f [.int p,.tup (xs.map rt)] g=some (.lst (W.map (aH xs)),g)/\Wt xs p W/\kj xs p W
set_option maxHeartbeats 4000000 in
theorem mB {bh:Fn}{p:Int}(p0:0<=p)(hp:p<=100)(hb:uM p bh):y_ p (aJ false 6 2 (oH bh)):=fun xs g hx hl hc=>by
 have fr:Rn xs p (first p):=Path.nil.rn p0 hx
 have w0:Wt xs p [first p]:=⟨by simp,fun r hr=>by simp at hr;subst hr;exact⟨[],Path.nil⟩⟩
 have h3:3 ^ xs.length<=3 ^ 12:=Nat.pow_le_pow_right (by omega) hl
 have h3':(3:Nat) ^ 12=531441:=by decide
 obtain⟨W,c,o5,e,w,cl⟩:=u_ p0 hx hl hb hc 1000000 0 [first p] none w0 (by simp) (by simp) (fun i hi=>by omega) (by omega)
 have b0:aP xs.length 0 = []:=by unfold aP;simp
 have ny:aH xs (first p) = .tup [.tup [],.tup (zs p)]:=by simp [aH,first,b0,kD]
 have key:wp (aJ false 6 2 (oH bh) [.int p,.tup (xs.map rt)] g) fun q=>q=(.lst (W.map (aH xs)),g):=by
  refine j7 rfl ?_
  have mz:bM (.tup [.int 0]) (.int p) g=some (.tup (zs p),g):=by
   rw [t_ (by omega) (by omega) (by simp)]
   simp [zs]
  have eP:CF [some (.int p),some (.tup (xs.map rt)),none,none,none,none] g=some (.nx,[some (.int p),some (.tup (xs.map rt)),some (.ref g.length),some (.int 0),none,none],g ++ [[aH xs (first p)]]):=by
   rw [ny]
   simp [CF,mz]
  have kk:=qt fr
  have eD':E3 [some (.int p),some (.tup (xs.map rt)),some (.ref g.length),some (.int 0),none,none] (g ++ [[aH xs (first p)]])=some (.nx,S6 p xs g.length 0 none,g ++ [[first p].map (aH xs),dN xs [first p]]):=by
   have sz:iu []=true:=by decide
   have dn:eR [(aj aw (aa 2) (fC (.int 0)),fC (.bl true))] [some (.int p),some (.tup (xs.map rt)),some (.ref g.length),some (.int 0),none,none] (g ++ [[aH xs (first p)]])=some (.aI (g.length+1),g ++ [[aH xs (first p)],dN xs [first p]]):=by
    generalize hy:aH xs (first p)=y at *
    have a0:((g ++ [[y]]) ++ [[]])[g.length]? = some [y]:=by simp
    have ox:iL (.ref g.length) (.int 0) (g ++ [[y]] ++ [[]])=some (y,g ++ [[y]] ++ [[]]):=by
     simp [iL,bZ,cR]
    simp only [eR,mP,pL,fS,tU,List.getElem?_cons_succ,List.getElem?_cons_zero,Option.bind_some,rP,ox]
    simp [L3.putAll,fE,kk,sz,bD,dN,hy]
   simp [E3,dn]
  have eW:Hi bh (S6 p xs g.length 0 none) (g ++ [[first p].map (aH xs),dN xs [first p]])=_:=e
  have e':oH bh [some (.int p),some (.tup (xs.map rt)),none,none,none,none] g=some (.rt (.ref g.length),S6 p xs g.length c o5,g ++ [W.map (aH xs),dN xs W]):=by
   simp only [oH,dy,eP,eD',eW,Option.bind_some]
   simp
  refine⟨_,e',g.length,W.map (aH xs),rfl,Nat.le_refl _,by simp,oa (w.rn p0 hx) _,by simpa using hc.all _,by simp⟩
 obtain⟨q,e,rfl⟩:=key
 exact⟨W,e,w,cl⟩
end Sd
namespace K48
open PySem PySem.Spec PyProof.Rows L2 L3 RI
def top (i:Nat):Stmt:=PySem.Challenge.pw_wholeglance_k48_orders_or_none.main.body.getD i (.Pass ⟨0,0,0,0⟩)
def BY:bJ:=⟨"zeros",["count"],["count"],top 1,false,[],false⟩
def CQ:bJ:=⟨"is_ahead",["row","other"],["row","other"],top 3,false,[],false⟩
def D9:bJ:=⟨"bits_of",["numbers"],["numbers"],top 5,false,[],false⟩
def EB:bJ:=⟨"ended_bits",["story"],["story"],top 6,false,[],false⟩
def BQ:bJ:=⟨"plan_of",["story"],["story","plan","number","row","ahead"],top 7,false,["plan"],false⟩
def Cc:bJ:=⟨"leads",["plan","done","state"],["plan","done","state","found","number","ahead","row","bit"],top 8,false,["found"],false⟩
def Eb:bJ:=⟨"fits",["row","state"],["row","state"],top 9,false,[],false⟩
def Dg:bJ:=⟨"state_behind",["row","state"],["row","state","deed"],top 10,false,[],false⟩
def Fi:bJ:=⟨"way_to",["came","room"],["came","room","way"],top 12,false,["way"],false⟩
def Fc:bJ:=⟨"ordered",["places","story"],["places","story","plan","ended","first","came","still","room","number","behind"],top 14,false,["still","came","*came"],false⟩
def zJ:bJ:=⟨"rows_done",["done","rows"],["done","rows"],top 15,false,[],false⟩
def zG:bJ:=⟨"_law_hand",["_law_script","_law_k"],["_law_script","_law_k","_law_cell"],top 17,true,[],false⟩
def zb:bJ:=⟨"_law_take",["_law_hand_here","_law_many"],["_law_hand_here","_law_many","_law_digit","_law_turn","_law_mixed","_law_other"],top 18,false,["_law_hand_here"],false⟩
def zI:bJ:=⟨"_law_pick",["_law_hand_here","_law_some"],["_law_hand_here","_law_some"],top 19,false,[],false⟩
def zT:bJ:=⟨"_law_some_value",["_law_hand_here"],["_law_hand_here"],top 20,false,[],false⟩
def zS:bJ:=⟨"_law_rows",["_law_hand_here","_law_places","_law_most"],["_law_hand_here","_law_places","_law_most","_law_rows_here","_law_begin","_law_open_hands","_law_ends","_law_hands","_law_k","_law_some","_law_one","_law_point","_law_deed"],top 21,false,["_law_ends","_law_rows_here","_law_open_hands","*_law_open_hands","*_law_ends"],false⟩
def yZ:bJ:=⟨"_law_told",["_law_places","_law_rows_here"],["_law_places","_law_rows_here","_law_state","_law_telling","_law_order","_law_point","_law_k","_law_one","_law_deed","_law_begin","_law_end","_law_numbers"],top 22,false,["_law_order","_law_telling","*_law_telling"],false⟩
def yW:bJ:=⟨"_law_bent",["_law_hand_here","_law_places","_law_rows_here"],["_law_hand_here","_law_places","_law_rows_here","_law_some","_law_turn","_law_at","_law_hand_own","_law_deed","_law_begin","_law_end","_law_told_here","_law_place","_law_tellings","_law_changed"],top 23,false,["_law_some"],false⟩
def zo:bJ:=⟨"_law_fits",["_law_places","_law_rows_here","_law_order"],["_law_places","_law_rows_here","_law_order","_law_k","_law_row","_law_state","_law_ahead","_law_hand_here","_law_deed","_law_begin","_law_end","_law_told_here"],top 24,false,["_law_ahead"],false⟩
def zt:bJ:=⟨"_law_behind",["_law_rows_here","_law_done","_law_state"],["_law_rows_here","_law_done","_law_state","_law_found","_law_k","_law_row","_law_early"],top 25,false,["_law_found"],false⟩
def yY:bJ:=⟨"_law_all",["_law_places","_law_rows_here"],["_law_places","_law_rows_here","_law_waiting","_law_at","_law_met","_law_pair"],top 26,false,["_law_met","_law_waiting","*_law_met"],false⟩
def zL:bJ:=⟨"_law_ended",["_law_rows_here","_law_done"],["_law_rows_here","_law_done"],top 27,false,[],false⟩
def y3:bJ:=⟨"law",["_law_script"],["_law_script","_law_k","_law_hand_here","_law_places","_law_rows_here","_law_can","_law_found"],top 28,false,[],false⟩
def ds:List bJ:=[BY,CQ,D9,EB,BQ,Cc,Eb,Dg,Fi,Fc,zJ,zG,zb,zI,zT,zS,yZ,yW,zo,zt,yY,zL,y3]
def pk:Pk:=⟨[IM,Jo,IS,Jh,IY,HJ,HI,Ie,Di,FR],[Fo],[ya,GN,BC,Gr],[AO,DZ],[I_,F4,Fp,JG]⟩
def mo:Mo:=⟨ds,["len","max","min","int","tuple","list","all","any","sum","sorted","dict","range","enumerate","isinstance","reversed"],[],[],pk,1000000⟩
def KG (T:Nat->Fn):FS:=aQ (aj bM (aG aD (af (fC (.int 0)) ao)) (aa 0))
def La (T:Nat->Fn):FS:=aQ (ij (aj bO (aj aw (aa 0) (fC (.int 3))) (fC .non)) (aj oLe (aj aw (aa 0) (fC (.int 3))) (aj aw (aa 1) (fC (.int 2)))))
def Lb (T:Nat->Fn):FS:=aQ (au i7 (af (bU bB (b_ (aa 0)) [none,none] (gN 1) bC (aj (aY cu (fun i j=>i*2 ^ j.toNat)) (fC (.int 1)) (aa 1))) ao))
def KS (T:Nat->Fn):FS:=aQ (au (T 2) (af (bU bB (cY (aa 0)) [none,none,none] (gT 2 (aq (gN 1) (aq (gN 2) aK))) (az (aj bO (aj aw (aa 2) (fC (.int 3))) (fC .non))) (aa 1)) ao))
def K2 (T:Nat->Fn):FS:=ax (aA (aG mkRef ao) (gN 1)) (ax (cI (cY (aa 0)) (gT 2 (aq (gN 2) (aq (gN 3) aK))) (ax (aA (bU bB (cY (aa 0)) [none,none,none,some 3] (gT 2 (aq (gN 1) (aq (gN 2) aK))) (dg (au (T 1) (af (aa 2) (af (aa 3) ao)))) (aa 1)) (gN 4)) (cc (bX isRef bG (aa 1) (af (aG aD (af (aa 2) (af (au (T 2) (af (aa 4) ao)) (af (aa 3) ao)))) ao))))) (aQ (aa 1)))
def K0 (T:Nat->Fn):FS:=ax (aA (aG mkRef ao) (gN 3)) (ax (cI (b_ (aa 0)) (gT 3 (aq (gN 4) (aq (gN 5) (aq (gN 6) aK)))) (ax (aA (aj (aY cu (fun i j=>i*2 ^ j.toNat)) (fC (.int 1)) (aa 4)) (gN 7)) (bH (cL (az (aj oEq (aj (aY bQ Builtin.bitAnd) (aa 1) (aa 7)) (fC (.int 0)))) (cL (az (aj oEq (aj (aY bQ Builtin.bitAnd) (aa 1) (aa 5)) (aa 5))) (dg (au (T 6) (af (aa 6) (af (aa 2) ao)))))) (cc (bX isRef bG (aa 3) (af (aG aD (af (aa 4) (af (aG aD (af (aj (aY bQ Builtin.bitOr) (aa 1) (aa 7)) (af (au (T 7) (af (aa 6) (af (aa 2) ao))) ao))) ao))) ao))) aR))) (aQ (aa 3)))
def Ld (T:Nat->Fn):FS:=aQ (qX (aj oEq (aj aw (aj aw (aa 0) (fC (.int 1))) (fC (.int 0))) (fC (.str "put"))) (aj oEq (aj aw (aa 0) (fC (.int 4))) (aa 1)))
def K3 (T:Nat->Fn):FS:=ax (aA (aj aw (aa 0) (fC (.int 1))) (gN 2)) (ax (bH (az (aj oEq (aj aw (aa 2) (fC (.int 0))) (fC (.str "look")))) (aQ (aa 1)) aR) (aQ (aj aM (aj aM (cQ (aa 1) cP (cf (aj aw (aa 2) (fC (.int 1))))) (aG aD (af (aj aw (aa 2) (fC (.int 2))) ao))) (cQ (aa 1) (cf (aj aM (aj aw (aa 2) (fC (.int 1))) (fC (.int 1)))) cP))))
def KP (T:Nat->Fn):FS:=ax (aA (aG mkRef ao) (gN 2)) (ax (iE 1000000 (az (aj bO (aj aw (aa 0) (aa 1)) (fC .non))) (ax (cc (bX isRef bG (aa 2) (af (aj aw (aj aw (aa 0) (aa 1)) (fC (.int 0))) ao))) (aA (aj aw (aj aw (aa 0) (aa 1)) (fC (.int 1))) (gN 1)))) (aQ (lK (aa 2))))
def KN (T:Nat->Fn):FS:=ax (aA (au (T 4) (af (aa 1) ao)) (gN 2)) (ax (aA (au (T 3) (af (aa 1) ao)) (gN 3)) (ax (aA (aG aD (af (fC (.int 0)) (af (au (T 0) (af (aa 0) ao)) ao))) (gN 4)) (ax (aA (eR [(aa 4,fC .non)]) (gN 5)) (ax (aA (aG mkRef (af (aa 4) ao)) (gN 6)) (ax (iE 1000000 (az (aj sv (au cU (af (aa 6) ao)) (fC (.int 0)))) (ax (aA (bX isRef nD (aa 6) ao) (gN 7)) (ax (bH (az (aj oEq (aj (aY bQ Builtin.bitAnd) (aj aw (aa 7) (fC (.int 0))) (aa 3)) (aa 3))) (aQ (aG aD (af (fC (.str "order")) (af (au (T 8) (af (aa 5) (af (aa 7) ao))) ao)))) aR) (cI (b_ (au (T 5) (af (aa 2) (af (aj aw (aa 7) (fC (.int 0))) (af (aj aw (aa 7) (fC (.int 1))) ao))))) (gT 2 (aq (gN 8) (aq (gN 9) aK))) (bH (az (aj cW (aa 9) (aa 5))) (ax (aA (aG aD (af (aa 8) (af (aa 7) ao))) (dB (aa 5) (aa 9))) (cc (bX isRef bG (aa 6) (af (aa 9) ao)))) aR))))) (aQ (aG aD (af (fC (.str "none")) (af (au de (af (iN bB (kX (aa 5)) [none,none,none,some 1] (gT 2 (aq (gN 1) (aq (gN 2) aK))) bC (aG aD (af (au (T 10) (af (aa 1) (af (au cU (af (aa 3) ao)) ao))) (af (aa 2) ao)))) ao)) ao)))))))))
def Jg (T:Nat->Fn):FS:=aQ (au de (af (bU bB (gy (af (aa 1) ao)) [none,none,some 0] (gN 1) (az (aj ff (aj (aY bQ Builtin.bitAnd) (aa 2) (aj (aY cu (fun i j=>i*2 ^ j.toNat)) (fC (.int 1)) (aa 1))) (fC (.int 0)))) (aa 1)) ao))
def Iw (T:Nat->Fn):FS:=ax (aA (fC (.int 0)) (gN 2)) (ax (bH (az (aj oLt (aa 1) (au cU (af (aa 0) ao)))) (aA (aj aw (aa 0) (aa 1)) (gN 2)) aR) (aQ (aG mkRef (af (aj bM (aa 2) (au gn (af (aj uW (aa 2) (aj (aY cu (fun i j=>i ^ j.toNat)) (fC (.int 10)) (fC (.int 18)))) ao))) (af (aj aM (aj aM (aj (aY cy (· % ·)) (aa 2) (fC (.int 2305843009213693951))) (aj bM (fC (.int 7919)) (aa 1))) (fC (.int 3))) (af (fC (.int 0)) ao))))))
def HG (T:Nat->Fn):FS:=ax (bH (az (aj sv (aj aw (aa 0) (fC (.int 0))) (fC (.int 0)))) (ax (aA (aj (aY cy (· % ·)) (aj aw (aa 0) (fC (.int 0))) (aa 1)) (gN 2)) (ax (aA (aj (aY ed (· / ·)) (aj aw (aa 0) (fC (.int 0))) (aa 1)) (dB (aa 0) (fC (.int 0)))) (aQ (aa 2)))) aR) (ax (aA (aj aM (aj aw (aa 0) (fC (.int 2))) (fC (.int 1))) (dB (aa 0) (fC (.int 2)))) (ax (aA (aj aw (aa 0) (fC (.int 2))) (gN 3)) (ax (aA (aj (aY cy (· % ·)) (aj bM (aj aw (aa 0) (fC (.int 1))) (aj aM (aj aM (fC (.int 48271)) (aj bM (aj bM (fC (.int 2)) (aa 3)) (aa 3))) (aj bM (fC (.int 65537)) (aa 3)))) (fC (.int 2305843009213693921))) (gN 4)) (ax (aA (aj aM (aj aM (aj (aY cy (· % ·)) (aa 4) (fC (.int 1000003))) (aj bM (aa 3) (fC (.int 99991)))) (fC (.int 11))) (gN 5)) (ax (aA (aj (aY cy (· % ·)) (aj bM (aa 4) (aa 5)) (fC (.int 2305843009213693907))) (gN 4)) (aQ (aj (aY cy (· % ·)) (aj aM (aj (aY ed (· / ·)) (aa 4) (fC (.int 97))) (aj (aY ed (· / ·)) (aa 4) (fC (.int 1000033)))) (aa 1))))))))
def IK (T:Nat->Fn):FS:=aQ (aj aw (aa 1) (au (T 12) (af (aa 0) (af (au cU (af (aa 1) ao)) ao))))
def JI (T:Nat->Fn):FS:=aQ (au (T 13) (af (aa 0) (af (aG b8 (af (fC (.int 1)) (af (fC (.int 1)) (af (fC (.int 2)) (af (fC (.int 3)) (af (fC (.int 0)) (af (aG aD ao) (af (aG aD (af (fC (.int 1)) (af (fC (.int 2)) ao))) (af (uY qH (fC (.int 5))) ao))))))))) ao)))
def Ia (T:Nat->Fn):FS:=ax (aA (aG aD (af (aG mkRef ao) (af (fC (.int 0)) (af gI (af gI ao))))) (gT 4 (aq (gN 3) (aq (gN 4) (aq (gN 5) (aq (gN 6) aK)))))) (ax (aA (au (T 13) (af (aa 0) (af (aG b8 (af (fC (.int 1)) (af (fC (.int 2)) (af (fC (.int 3)) (af (fC (.int 3)) (af (fC (.int 4)) (af (fC (.int 5)) ao))))))) ao))) (gN 7)) (ax (cI (gy (af (au (T 12) (af (aa 0) (af (aj aM (aa 2) (fC (.int 1))) ao))) ao)) (gN 8) (ax (aA (aj aM (aa 4) (au (T 13) (af (aa 0) (af (aG b8 (af (fC (.int 0)) (af (fC (.int 1)) (af (fC (.int 1)) (af (fC (.int 2)) (af (fC (.int 5)) ao)))))) ao)))) (gN 4)) (ax (aA (bU bB (gy (af (aa 7) ao)) [none,none,some 4,some 6,some 5] (gN 1) (cL (az (aj cW (aa 1) (aa 4))) (az (aj oLe (bX fV gw (aa 3) (af (aa 1) (af (fC (.int 0)) ao))) (aa 2)))) (aa 1)) (gN 9)) (bH (az (aj ff (aa 9) (aG b8 ao))) (ax (aA (au (T 13) (af (aa 0) (af (aa 9) ao))) (gN 10)) (ax (aA (aj aM (aj aM (aa 4) (fC (.int 1))) (au (T 13) (af (aa 0) (af (aG b8 (af (fC (.int 0)) (af (fC (.int 1)) (af (fC (.int 2)) (af (fC (.int 4)) (af (fC (.int 9)) ao)))))) ao)))) (dB (aa 6) (aa 10))) (ax (aA (aj aM (aj aM (aj bM (fC (.int 4)) (aa 4)) (fC (.int 1))) (au (T 12) (af (aa 0) (af (aj (aY bQ (· - ·)) (aj bM (fC (.int 4)) (aj (aY bQ (· - ·)) (aj aw (aa 6) (aa 10)) (aa 4))) (fC (.int 1))) ao)))) (gN 11)) (ax (aA (aG aD (af (fC (.str "look")) ao)) (gN 12)) (ax (bH (az (aj oLt (au (T 12) (af (aa 0) (af (fC (.int 5)) ao))) (fC (.int 3)))) (aA (aG aD (af (fC (.str "put")) (af (au (T 12) (af (aa 0) (af (aa 1) ao))) (af (au (T 14) (af (aa 0) ao)) ao)))) (gN 12)) aR) (ax (bH (az (aj oEq (au (T 12) (af (aa 0) (af (fC (.int 8)) ao))) (fC (.int 0)))) (aA (fC (.bl true)) (dB (aa 5) (aa 10))) aR) (cc (bX isRef bG (aa 3) (af (aG aD (af (aa 11) (af (aa 8) (af (aG aD (af (aa 10) (af (aa 12) (af (aa 4) (af (pM (az (aj et (aa 10) (aa 5))) (fC .non) (aj aw (aa 6) (aa 10))) ao))))) ao)))) ao))))))))) aR)))) (aQ (aa 3))))
def Ik (T:Nat->Fn):FS:=ax (aA (aG aD (af (aj bM (aG aD (af (fC (.int 0)) ao)) (aa 0)) (af gI (af (aG mkRef ao) ao)))) (gT 3 (aq (gN 2) (aq (gN 3) (aq (gN 4) aK))))) (ax (cI (b_ (au cK (af (aa 1) ao))) (gT 3 (aq (gN 5) (aq (gN 6) (aq (gT 4 (aq (gN 7) (aq (gN 8) (aq (gN 9) (aq (gN 10) aK))))) aK)))) (ax (bH (az (aj oEq (aj aw (aa 8) (fC (.int 0))) (fC (.str "put")))) (aA (aj aM (aj aM (cQ (aa 2) cP (cf (aj aw (aa 8) (fC (.int 1))))) (aG aD (af (aj aw (aa 8) (fC (.int 2))) ao))) (cQ (aa 2) (cf (aj aM (aj aw (aa 8) (fC (.int 1))) (fC (.int 1)))) cP)) (gN 2)) aR) (ax (bH (ib (az (aj oEq (aj aw (aa 8) (fC (.int 0))) (fC (.str "put")))) (az (aj bO (aa 10) (fC .non)))) (cc (bX isRef bG (aa 4) (af (aa 6) ao))) aR) (bH (cL (az (aj oEq (aj aw (aa 8) (fC (.int 0))) (fC (.str "look")))) (az (aj bO (aa 10) (fC .non)))) (aA (aa 2) (dB (aa 3) (aa 6))) aR)))) (ax (aA (bU bB (b_ (aa 1)) [none,none,none,none] (gT 3 (aq (gN 1) (aq (gN 2) (aq (gN 3) aK)))) bC (aa 2)) (gN 11)) (aQ (aG aD (af (au de (af (bU bB (b_ (aa 1)) [none,none,none,none,some 3] (gT 3 (aq (gN 1) (aq (gN 2) (aq (gN 3) aK)))) bC (aj aM (aa 3) (aG aD (af (bX fV gw (aa 4) (af (aa 2) ao)) ao)))) ao)) (af (au de (af (da bB (gq (aa 4)) [none,none,some 11] (gN 1) bC (bX fW e_ (aa 2) (af (aa 1) ao))) ao)) ao))))))
def HV (T:Nat->Fn):FS:=ax (aA (au kc (af (aa 2) ao)) (gN 3)) (ax (cI (gy (af (aj bM (au (T 13) (af (aa 0) (af (aG b8 (af (fC (.int 0)) (af (fC (.int 1)) (af (fC (.int 1)) (af (fC (.int 2)) (af (fC (.int 3)) ao)))))) ao))) (au gn (af (aj df (aa 3) (aG b8 ao)) ao))) ao)) (gN 4) (ax (aA (au (T 12) (af (aa 0) (af (au cU (af (aa 3) ao)) ao))) (gN 5)) (ax (aA (aj aw (aa 3) (aa 5)) (gT 5 (aq (gN 6) (aq (gN 7) (aq (gN 8) (aq (gN 9) (aq (gN 10) aK))))))) (bH (az (aj bO (aa 10) (fC .non))) (ax (aA (au (T 12) (af (aa 0) (af (aa 1) ao))) (gN 11)) (ax (aA (da bB (gq (aa 3)) [none,none] (gN 1) (az (aj bO (aj aw (aa 1) (fC (.int 4))) (fC .non))) (aj aw (aa 1) (fC (.int 4)))) (gN 12)) (ax (aA (aj aM (aj aM (cQ (aa 10) cP (cf (aa 11))) (aG aD (af (au (T 14) (af (aa 0) ao)) ao))) (cQ (aa 10) (cf (aj aM (aa 11) (fC (.int 1)))) cP)) (gN 13)) (aA (aG aD (af (aa 6) (af (aa 7) (af (aa 8) (af (aa 9) (af (au (T 13) (af (aa 0) (af (aG b8 (af (aa 13) (af (au (T 13) (af (aa 0) (af (aa 12) ao))) ao))) ao))) ao)))))) (dB (aa 3) (aa 5)))))) aR)))) (aQ (au de (af (aa 3) ao))))
def HU (T:Nat->Fn):FS:=ax (bH (az (aj df (au cK (af (aa 2) ao)) (au cK (af (au iY (af (bU bB (b_ (aa 2)) [none,none] (gN 1) bC (aG aD (af (aa 1) (af (fC (.bl true)) ao)))) ao)) ao)))) (aQ (fC (.bl false))) aR) (ax (cI (cY (aa 1)) (gT 2 (aq (gN 3) (aq (gN 4) aK))) (bH (ib (cL (az (aj bO (aj aw (aa 4) (fC (.int 3))) (fC .non))) (az (aj cW (aa 3) (aa 2)))) (cL (az (aj et (aa 3) (aa 2))) (cL (az (aj rT (aj aw (aa 4) (fC (.int 3))) (fC .non))) (az (aj oEq (aj aw (aj aw (aa 4) (fC (.int 1))) (fC (.int 0))) (fC (.str "look"))))))) (aQ (fC (.bl false))) aR)) (ax (lr 5 6 (af (aj bM (aG aD (af (fC (.int 0)) ao)) (aa 0)) (af (aG mkRef ao) ao))) (ax (cI (b_ (aa 2)) (gN 3) (ax (aA (aj aw (aa 1) (aa 3)) (gT 5 (aq (gN 7) (aq (gN 8) (aq (gN 9) (aq (gN 10) (aq (gN 11) aK))))))) (ax (bH (dg (au fz (af (da bB (gq (aa 6)) [none,none,some 10,some 1] (gN 1) bC (ij (aj bO (aa 2) (fC .non)) (aj oLe (aa 2) (aj aw (aj aw (aa 3) (aa 1)) (fC (.int 2)))))) ao))) (aQ (fC (.bl false))) aR) (ax (bH (az (aj oEq (aj aw (aa 8) (fC (.int 0))) (fC (.str "put")))) (aA (aj aM (aj aM (cQ (aa 5) cP (cf (aj aw (aa 8) (fC (.int 1))))) (aG aD (af (aj aw (aa 8) (fC (.int 2))) ao))) (cQ (aa 5) (cf (aj aM (aj aw (aa 8) (fC (.int 1))) (fC (.int 1)))) cP)) (gN 5)) (bH (az (aj ff (aa 11) (aa 5))) (aQ (fC (.bl false))) aR)) (cc (bX isRef bG (aa 6) (af (aa 3) ao))))))) (aQ (fC (.bl true))))))
def IA (T:Nat->Fn):FS:=ax (aA (aG mkRef ao) (gN 3)) (ax (cI (cY (aa 0)) (gT 2 (aq (gN 4) (aq (gN 5) aK))) (ax (aA (bU bB (cY (aa 0)) [none,none,none,some 5] (gT 2 (aq (gN 1) (aq (gN 2) aK))) (cL (az (aj bO (aj aw (aa 2) (fC (.int 3))) (fC .non))) (az (aj oLe (aj aw (aa 2) (fC (.int 3))) (aj aw (aa 3) (fC (.int 2)))))) (aa 1)) (gN 6)) (ax (bH (ib (az (aj et (aa 4) (aa 1))) (gR (dg (au jO (af (bU bB (b_ (aa 6)) [none,none,some 1] (gN 1) bC (aj et (aa 1) (aa 2))) ao))))) t9 aR) (bH (az (aj oEq (aj aw (aj aw (aa 5) (fC (.int 1))) (fC (.int 0))) (fC (.str "put")))) (cc (bX isRef bG (aa 3) (af (aG aD (af (aj aM (aa 1) (aG aD (af (aa 4) ao))) (af (aj aM (aj aM (cQ (aa 2) cP (cf (aj aw (aj aw (aa 5) (fC (.int 1))) (fC (.int 1))))) (aG aD (af (aj aw (aj aw (aa 5) (fC (.int 1))) (fC (.int 2))) ao))) (cQ (aa 2) (cf (aj aM (aj aw (aj aw (aa 5) (fC (.int 1))) (fC (.int 1))) (fC (.int 1)))) cP)) ao))) ao))) (bH (az (aj oEq (aj aw (aa 5) (fC (.int 4))) (aa 2))) (cc (bX isRef bG (aa 3) (af (aG aD (af (aj aM (aa 1) (aG aD (af (aa 4) ao))) (af (aa 2) ao))) ao))) aR))))) (aQ (da bB (gq (aa 3)) [none,none,none] (gT 2 (aq (gN 1) (aq (gN 2) aK))) bC (aG aD (af (au de (af (au cK (af (aa 1) ao)) ao)) (af (aa 2) ao))))))
def JA (T:Nat->Fn):FS:=ax (lr 2 3 (af (aG mkRef (af (aG aD (af (aG aD ao) (af (aj bM (aG aD (af (fC (.int 0)) ao)) (aa 0)) ao))) ao)) (af (fC (.int 0)) ao))) (ax (aA (eR [(aj aw (aa 2) (fC (.int 0)),fC (.bl true))]) (gN 4)) (ax (iE 1000000 (az (aj oLt (aa 3) (au cU (af (aa 2) ao)))) (ax (cI (b_ (au (T 19) (af (aa 1) (af (aj aw (aj aw (aa 2) (aa 3)) (fC (.int 0))) (af (aj aw (aj aw (aa 2) (aa 3)) (fC (.int 1))) ao))))) (gN 5) (bH (az (aj cW (aa 5) (aa 4))) (ax (aA (fC (.bl true)) (dB (aa 4) (aa 5))) (cc (bX isRef bG (aa 2) (af (aa 5) ao)))) aR)) (aA (aj aM (aa 3) (fC (.int 1))) (gN 3)))) (aQ (aa 2))))
def IJ (T:Nat->Fn):FS:=aQ (au jO (af (bU bB (cY (aa 0)) [none,none,none,some 1] (gT 2 (aq (gN 1) (aq (gN 2) aK))) (az (aj bO (aj aw (aa 2) (fC (.int 3))) (fC .non))) (aj et (aa 1) (aa 3))) ao))
def BX (T:Nat->Fn):FS:=ax (cI (gy (af (au mU (af (fC (.int 1)) (af (au nF (af (fC (.int 5)) (af (au cU (af (aa 0) ao)) ao))) ao))) ao)) (gN 1) (ax (aA (au (T 11) (af (aa 0) (af (aa 1) ao))) (gN 2)) (ax (aA (aj aM (fC (.int 1)) (au (T 12) (af (aa 2) (af (fC (.int 5)) ao)))) (gN 3)) (ax (aA (aj aw (au (T 16) (af (aa 3) (af (au (T 15) (af (aa 2) (af (aa 3) (af (aj aw (aG b8 (af (fC (.int 7)) (af (fC (.int 7)) (af (fC (.int 7)) (af (fC (.int 12)) ao))))) (au (T 12) (af (aa 2) (af (fC (.int 4)) ao)))) ao)))) ao))) (fC (.int 0))) (gN 4)) (ax (aA (au (T 17) (af (aa 2) (af (aa 3) (af (aa 4) ao)))) (gN 4)) (ax (aA (au fz (af (bU bB (b_ (au (T 20) (af (aa 3) (af (aa 4) ao)))) [none,none,none,some 4] (gT 2 (aq (gN 1) (aq (gN 2) aK))) bC (au (T 21) (af (aa 3) (af (aa 1) ao)))) ao)) (gN 5)) (ax (aA (au (T 9) (af (aa 3) (af (aa 4) ao))) (gN 6)) (ax (bH (ib (gR (dg (lb .tuple (aa 6)))) (ib (az (aj df (au cU (af (aa 6) ao)) (fC (.int 2)))) (gR (dg (lb .tuple (aj aw (aa 6) (fC (.int 1)))))))) (aQ (fC (.bl false))) aR) (ax (bH (ib (az (aj ff (aj aw (aa 6) (fC (.int 0))) (aj aw (aG b8 (af (fC (.str "none")) (af (fC (.str "order")) ao))) (au gn (af (aa 5) ao))))) (az (aj df (au (T 9) (af (aa 3) (af (aa 4) ao))) (aa 6)))) (aQ (fC (.bl false))) aR) (bH (cL (dg (aa 5)) (gR (dg (au (T 18) (af (aa 3) (af (aa 4) (af (aj aw (aa 6) (fC (.int 1))) ao))))))) (aQ (fC (.bl false))) aR)))))))))) (aQ (fC (.bl true)))
def tab:Nat->Nat->Fn
 | 0,_=>fun _ _=>none
 | k+1,0=>(aJ false 1 1 (KG (tab k)))
 | k+1,1=>(aJ false 2 2 (La (tab k)))
 | k+1,2=>(aJ false 1 1 (Lb (tab k)))
 | k+1,3=>(aJ false 1 1 (KS (tab k)))
 | k+1,4=>(aJ false 5 1 (K2 (tab k)))
 | k+1,5=>(aJ false 8 3 (K0 (tab k)))
 | k+1,6=>(aJ false 2 2 (Ld (tab k)))
 | k+1,7=>(aJ false 3 2 (K3 (tab k)))
 | k+1,8=>(aJ false 3 2 (KP (tab k)))
 | k+1,9=>(aJ false 10 2 (KN (tab k)))
 | k+1,10=>(aJ false 2 2 (Jg (tab k)))
 | k+1,11=>(aJ true 3 2 (Iw (tab k)))
 | k+1,12=>(aJ false 6 2 (HG (tab k)))
 | k+1,13=>(aJ false 2 2 (IK (tab k)))
 | k+1,14=>(aJ false 1 1 (JI (tab k)))
 | k+1,15=>(aJ false 13 3 (Ia (tab k)))
 | k+1,16=>(aJ false 12 2 (Ik (tab k)))
 | k+1,17=>(aJ false 14 3 (HV (tab k)))
 | k+1,18=>(aJ false 12 3 (HU (tab k)))
 | k+1,19=>(aJ false 7 3 (IA (tab k)))
 | k+1,20=>(aJ false 6 2 (JA (tab k)))
 | k+1,21=>(aJ false 2 2 (IJ (tab k)))
 | k+1,22=>(aJ false 7 1 (BX (tab k)))
 | _+1,_=>fun _ _=>none
theorem Li (k:Nat):tab (k+1) 0=BY.run mo (tab k) k:=by kernel_rfl
theorem KA (k:Nat):tab (k+1) 1=CQ.run mo (tab k) k:=by kernel_rfl
theorem Lf (k:Nat):tab (k+1) 2=D9.run mo (tab k) k:=by kernel_rfl
theorem K9 (k:Nat):tab (k+1) 3=EB.run mo (tab k) k:=by kernel_rfl
theorem K7 (k:Nat):tab (k+1) 4=BQ.run mo (tab k) k:=by kernel_rfl
theorem KL (k:Nat):tab (k+1) 5=Cc.run mo (tab k) k:=by kernel_rfl
theorem KJ (k:Nat):tab (k+1) 6=Eb.run mo (tab k) k:=by kernel_rfl
theorem K1 (k:Nat):tab (k+1) 7=Dg.run mo (tab k) k:=by kernel_rfl
theorem Lg (k:Nat):tab (k+1) 8=Fi.run mo (tab k) k:=by kernel_rfl
theorem K8 (k:Nat):tab (k+1) 9=Fc.run mo (tab k) k:=by kernel_rfl
theorem Ib (k:Nat):tab (k+1) 10=zJ.run mo (tab k) k:=by kernel_rfl
theorem IU (k:Nat):tab (k+1) 11=zG.run mo (tab k) k:=by kernel_rfl
theorem Je (k:Nat):tab (k+1) 12=zb.run mo (tab k) k:=by kernel_rfl
theorem Iu (k:Nat):tab (k+1) 13=zI.run mo (tab k) k:=by kernel_rfl
theorem Io (k:Nat):tab (k+1) 14=zT.run mo (tab k) k:=by kernel_rfl
theorem Jb (k:Nat):tab (k+1) 15=zS.run mo (tab k) k:=by kernel_rfl
theorem JU (k:Nat):tab (k+1) 16=yZ.run mo (tab k) k:=by kernel_rfl
theorem HQ (k:Nat):tab (k+1) 17=yW.run mo (tab k) k:=by kernel_rfl
theorem IF (k:Nat):tab (k+1) 18=zo.run mo (tab k) k:=by kernel_rfl
theorem Jp (k:Nat):tab (k+1) 19=zt.run mo (tab k) k:=by kernel_rfl
theorem HZ (k:Nat):tab (k+1) 20=yY.run mo (tab k) k:=by kernel_rfl
theorem HR (k:Nat):tab (k+1) 21=zL.run mo (tab k) k:=by kernel_rfl
theorem IW (k:Nat):tab (k+1) 22=y3.run mo (tab k) k:=by kernel_rfl
theorem good:Good mo tab:=⟨fun _ _ _=>rfl,fun k j d h=>by
 match j,h with
 | 0,h=>cases h;exact Li k
 | 1,h=>cases h;exact KA k
 | 2,h=>cases h;exact Lf k
 | 3,h=>cases h;exact K9 k
 | 4,h=>cases h;exact K7 k
 | 5,h=>cases h;exact KL k
 | 6,h=>cases h;exact KJ k
 | 7,h=>cases h;exact K1 k
 | 8,h=>cases h;exact Lg k
 | 9,h=>cases h;exact K8 k
 | 10,h=>cases h;exact Ib k
 | 11,h=>cases h;exact IU k
 | 12,h=>cases h;exact Je k
 | 13,h=>cases h;exact Iu k
 | 14,h=>cases h;exact Io k
 | 15,h=>cases h;exact Jb k
 | 16,h=>cases h;exact JU k
 | 17,h=>cases h;exact HQ k
 | 18,h=>cases h;exact IF k
 | 19,h=>cases h;exact Jp k
 | 20,h=>cases h;exact HZ k
 | 21,h=>cases h;exact HR k
 | 22,h=>cases h;exact IW k
 | j+23,h=>exact absurd h (by simp [mo,ds]),fun d hd=>vA (show sg ds=true by decide +kernel) d hd⟩
end K48
namespace K48
open PySem L3 L2 Pd Od Sd RI
theorem KU (k:Nat){p:Int}(h0:0<=p)(h1:p<=100):mQ p (tab (k+1) 0):=yO h0 h1
theorem Jl (k:Nat)(p:Int):iU p (tab (k+1) 1):=xJ
theorem D4 (k:Nat):jN (tab (k+1) 2):=Bp
theorem IT (k:Nat):uk (tab (k+2) 3):=ET (D4 k)
theorem HM (k:Nat)(p:Int):pS p (tab (k+2) 4):=A5 (Jl k p) (D4 k)
theorem JQ (k:Nat)(p:Int):jD p (tab (k+1) 6):=Aq
theorem Jj (k:Nat){p:Int}(h1:p<=100):iX p (tab (k+1) 7):=vQ h1
theorem Jf (k:Nat){p:Int}(h1:p<=100):j8 p (tab (k+2) 5):=xK (JQ k p) (Jj k h1)
theorem Ip (k:Nat)(xs:List Rt)(p:Int):oK xs p (tab (k+1) 8):=DX
theorem Iq (k:Nat):gH (tab (k+1) 10):=GJ
theorem JR (k:Nat){p:Int}(h0:0<=p)(h1:p<=100):zB p (tab (k+3) 9):=EH h0 (KU (k+1) h0 h1) (HM k p) (IT k) (Jf k h1) (fun xs=>Ip (k+1) xs p) (Iq (k+1))
theorem Ll (k:Nat):l_ (tab (k+1) 11):=AA
theorem wb (k:Nat):dS (tab (k+1) 12):=Bs
theorem CK (k:Nat):eH (tab (k+2) 13):=AW (wb k)
theorem Du (k:Nat):eO (tab (k+3) 14):=Bx (CK k)
theorem GZ (k:Nat):tab (k+4) 15=aJ false 13 3 (pR (tab (k+3) 12) (tab (k+3) 13) (tab (k+3) 14)):=rfl
theorem Ho (k:Nat):tab (k+1) 16=aJ false 12 2 qF:=rfl
theorem Hk (k:Nat):tab (k+4) 17=aJ false 14 3 (pB (tab (k+3) 12) (tab (k+3) 13) (tab (k+3) 14)):=rfl
theorem IP (k:Nat){p:Int}(h0:0<=p)(h1:p<=100):nT p (tab (k+1) 18):=ud h0 h1
theorem HN (k:Nat){p:Int}(h1:p<=100):uM p (tab (k+1) 19):=Gf h1
theorem ID (k:Nat){p:Int}(h0:0<=p)(h1:p<=100):y_ p (tab (k+2) 20):=mB h0 h1 (HN k h1)
theorem Jw (k:Nat)(p:Int):sL p (tab (k+1) 21):=yx
def EY (T:Nat->Fn):FE:=(au fz (af (bU bB (b_ (au (T 20) (af (aa 3) (af (aa 4) ao)))) [none,none,none,some 4] (gT 2 (aq (gN 1) (aq (gN 2) aK))) bC (au (T 21) (af (aa 3) (af (aa 1) ao)))) ao))
def qJ:FS:=(bH (ib (gR (dg (lb .tuple (aa 6)))) (ib (az (aj df (au cU (af (aa 6) ao)) (fC (.int 2)))) (gR (dg (lb .tuple (aj aw (aa 6) (fC (.int 1)))))))) (aQ (fC (.bl false))) aR)
def qI (T:Nat->Fn):FS:=(bH (ib (az (aj ff (aj aw (aa 6) (fC (.int 0))) (aj aw (aG b8 (af (fC (.str "none")) (af (fC (.str "order")) ao))) (au gn (af (aa 5) ao))))) (az (aj df (au (T 9) (af (aa 3) (af (aa 4) ao))) (aa 6)))) (aQ (fC (.bl false))) aR)
def iD (T:Nat->Fn):FS:=(bH (cL (dg (aa 5)) (gR (dg (au (T 18) (af (aa 3) (af (aa 4) (af (aj aw (aa 6) (fC (.int 1))) ao))))))) (aQ (fC (.bl false))) aR)
def rest (T:Nat->Fn):FS:=(ax (aA (EY T) (gN 5)) (ax (aA (au (T 9) (af (aa 3) (af (aa 4) ao))) (gN 6)) (ax qJ (ax (qI T) (iD T)))))
def iter (T:Nat->Fn):FS:=(ax (aA (au (T 11) (af (aa 0) (af (aa 1) ao))) (gN 2)) (ax (aA (aj aM (fC (.int 1)) (au (T 12) (af (aa 2) (af (fC (.int 5)) ao)))) (gN 3)) (ax (aA (aj aw (au (T 16) (af (aa 3) (af (au (T 15) (af (aa 2) (af (aa 3) (af (aj aw (aG b8 (af (fC (.int 7)) (af (fC (.int 7)) (af (fC (.int 7)) (af (fC (.int 12)) ao))))) (au (T 12) (af (aa 2) (af (fC (.int 4)) ao)))) ao)))) ao))) (fC (.int 0))) (gN 4)) (ax (aA (au (T 17) (af (aa 2) (af (aa 3) (af (aa 4) ao)))) (gN 4)) (rest T)))))
def zy (T:Nat->Fn):FS:=ax (cI (gy (af (au mU (af (fC (.int 1)) (af (au nF (af (fC (.int 5)) (af (au cU (af (aa 0) ao)) ao))) ao))) ao)) (gN 1) (iter T)) (aQ (fC (.bl true)))
theorem Cd (T:Nat->Fn):BX T=zy T:=rfl
abbrev gz (c0 c1:Option D)(n:Nat)(p:Int)(xs:List Rt)(c5 c6:Option D):Sg:=[c0,c1,some (.ref n),some (.int p),some (.tup (xs.map rt)),c5,c6]
theorem xM (xs:List Rt)(b:Nat):gu xs (aP xs.length b)=dw xs b:=by
 unfold gu dw
 have:∀l:List (Rt×Nat),(∀y∈l,y.2<xs.length)->(l.all fun y=>y.1.1.e.isNone||(aP xs.length b).contains y.2)=l.all fun y=>y.1.1.e.isNone||b.testBit y.2:=fun l=>by
  induction l with
  | nil=>intro _;rfl
  | cons y l ih =>
   intro h
   simp only [List.all_cons]
   rw [iS (h y (by simp)),ih fun z hz=>h z (by simp [hz])]
 exact this _ fun y hy=>(List.mem_zipIdx' hy).1
theorem F3 {k n:Nat}{p:Int}{xs:List Rt}{W:List aC}{g:G}{c0 c1 c5 c6:Option D}(hx:∀x∈xs,bx p x)(hl:xs.length<=12)(hW:W.length<=1000000)(e:tab (k+2) 20 [.int p,.tup (xs.map rt)] g=some (.lst (W.map (aH xs)),g)) :
  EY (tab (k+2)) (gz c0 c1 n p xs c5 c6) g=some (.bl (W.any fun r=>dw xs r.1),g):=by
 have hz:aF W.length=true:=by unfold aF;exact decide_eq_true (by omega)
 have c1':=fD (f:=aH xs) (t:=gT 2 (aq (gN 1) (aq (gN 2) aK))) (c:=bC) (e:=au (tab (k+2) 21) (af (aa 3) (af (aa 1) ao))) (h:=fun r=>D.bl (dw xs r.1)) (fun σ=>∃a b,σ = [none,a,b,some (.tup (xs.map rt))]) W [none,none,none,some (.tup (xs.map rt))] g ⟨_,_,rfl⟩ (by
  rintro r hm σ ⟨a,b,rfl⟩
  refine⟨[none,some (.tup (kD (aP xs.length r.1))),some (.tup r.2),some (.tup (xs.map rt))],by simp [aH],by simp,?_,⟨_,_,rfl⟩⟩
  have:=Jw (k+1) p xs (aP xs.length r.1) g hx (by omega)
  rw [xM] at this
  simp [this])
 have sb:bu [none,none,none,some 4] (gz c0 c1 n p xs c5 c6) = [none,none,none,some (.tup (xs.map rt))]:=rfl
 simp [EY,e,sb,c1',hz,fz,dP,dX,List.any_map,Function.comp_def]
set_option maxHeartbeats 4000000 in
theorem AN {k n:Nat}{p:Int}{xs:List Rt}{g:G}{c0 c1 c5 c6:Option D}(h0:0<=p)(hp:p<=100)(hx:∀x∈xs,bx p x)(hl:xs.length<=12)(hc:Clean g) :
   ∃o5 o6,rest (tab (k+3)) (gz c0 c1 n p xs c5 c6) g=some (.nx,gz c0 c1 n p xs o5 o6,g):=by
 obtain⟨W,e1,w,cl⟩:=ID (k+1) h0 hp xs g hx hl hc
 obtain⟨d,e2,⟨f1,f2,f3⟩,hd⟩:=JR k h0 hp xs g hx hl hc
 have h3:3 ^ xs.length<=3 ^ 12:=Nat.pow_le_pow_right (by omega) hl
 have h3':(3:Nat) ^ 12=531441:=by decide
 have hWl:=w.le h0 hx
 have ec:=F3 (k:=k+1) (n:=n) (c0:=c0) (c1:=c1) (c5:=c5) (c6:=c6) hx hl (by omega) e1
 have ee:=ic d f1
 have n2:df (.int 2) (.int 2) g=some (.bl false,g):=by
   have d2:dr (.int 2) g = .int 2:=rfl
   unfold df
   rw [d2,eJ]
   simp [flat,dep]
 rcases hd with⟨ks,r,rfl,hP,hE⟩ | ⟨ls,rfl,hN⟩
 . have hcan:(W.any fun r=>dw xs r.1)=true:=List.any_eq_true.mpr ⟨r,cl.all hP,hE⟩
   rw [hcan] at ec
   have hkl:ks.length<=12:=Nat.le_trans (nK hP.nodup hP.lt) hl
   have lf:=IP (k+2) h0 hp xs ks g hx hP.lt (by omega) hc
   rw [hP.ok hE] at lf
   have eA:qJ (gz c0 c1 n p xs (some (.bl true)) (some (.tup [.str "order",.tup (kD ks)]))) g=some (.nx,gz c0 c1 n p xs (some (.bl true)) (some (.tup [.str "order",.tup (kD ks)])),g):=by
    simp [qJ,hX,dD,bZ,n2]
   have eB:qI (tab (k+3)) (gz c0 c1 n p xs (some (.bl true)) (some (.tup [.str "order",.tup (kD ks)]))) g=some (.nx,gz c0 c1 n p xs (some (.bl true)) (some (.tup [.str "order",.tup (kD ks)])),g):=by
    have ne:df (.tup [.str "order",.tup (kD ks)]) (.tup [.str "order",.tup (kD ks)]) g=some (.bl false,g):=by
     unfold df
     show(if(flat (.tup [.str "order",.tup (kD ks)])&&flat (.tup [.str "order",.tup (kD ks)])&&decide (dep (.tup [.str "order",.tup (kD ks)])<=60))=true then some (D.bl (!aB (.tup [.str "order",.tup (kD ks)]) (.tup [.str "order",.tup (kD ks)])),g) else none)=_
     rw [ee,if_pos (by simp [f1,f2])]
     rfl
    simp [qI,cR,dD,e2,ne,flat,dep,Pd.eq_str]
   have eC:iD (tab (k+3)) (gz c0 c1 n p xs (some (.bl true)) (some (.tup [.str "order",.tup (kD ks)]))) g=some (.nx,gz c0 c1 n p xs (some (.bl true)) (some (.tup [.str "order",.tup (kD ks)])),g):=by
    simp [iD,dD,lf]
   refine⟨some (.bl true),some (.tup [.str "order",.tup (kD ks)]),?_⟩
   simp [rest,ec,e2,eA,eB,eC]
 . have hcan:(W.any fun r=>dw xs r.1)=false:=List.any_eq_false.mpr fun r hr=>by
    obtain⟨ks,hP⟩:=w.ph r hr
    rw [hN ks r hP];simp
   rw [hcan] at ec
   have eA:qJ (gz c0 c1 n p xs (some (.bl false)) (some (.tup [.str "none",.tup ls]))) g=some (.nx,gz c0 c1 n p xs (some (.bl false)) (some (.tup [.str "none",.tup ls])),g):=by
    simp [qJ,hX,dD,bZ,n2]
   have eB:qI (tab (k+3)) (gz c0 c1 n p xs (some (.bl false)) (some (.tup [.str "none",.tup ls]))) g=some (.nx,gz c0 c1 n p xs (some (.bl false)) (some (.tup [.str "none",.tup ls])),g):=by
    have ne:df (.tup [.str "none",.tup ls]) (.tup [.str "none",.tup ls]) g=some (.bl false,g):=by
     unfold df
     show(if(flat (.tup [.str "none",.tup ls])&&flat (.tup [.str "none",.tup ls])&&decide (dep (.tup [.str "none",.tup ls])<=60))=true then some (D.bl (!aB (.tup [.str "none",.tup ls]) (.tup [.str "none",.tup ls])),g) else none)=_
     rw [ee,if_pos (by simp [f1,f2])]
     rfl
    simp [qI,cR,dD,e2,ne,flat,dep,Pd.eq_str]
   have eC:iD (tab (k+3)) (gz c0 c1 n p xs (some (.bl false)) (some (.tup [.str "none",.tup ls]))) g=some (.nx,gz c0 c1 n p xs (some (.bl false)) (some (.tup [.str "none",.tup ls])),g):=by
    simp [iD]
   refine⟨some (.bl false),some (.tup [.str "none",.tup ls]),?_⟩
   simp [rest,ec,e2,eA,eB,eC]
def KO (ns:List Int)(i:Nat)(σ:Sg)(g:G):Prop:=(∃o1 o2 o3 o4 o5 o6,σ = [some (.lst (ns.map .int)),o1,o2,o3,o4,o5,o6])/\Clean g
set_option maxHeartbeats 4000000 in
theorem xS (ns:List Int)(hl:ns.length<=63):∃g',tab 60 22 [.lst (ns.map .int)] []=some (.bl true,g'):=by
 have main:wp (tab 60 22 [.lst (ns.map .int)] []) fun r=>r.1 = .bl true:=by
  refine fL rfl ?_
  simp only [Cd,zy,dy,wp_bind,mZ]
  refine lF ?_
  simp
  refine⟨by split<;>omega,by split<;>omega,?_⟩
  refine iM (KO ns) _ 0 _ _ ⟨⟨_,_,_,_,_,_,rfl⟩,fun x hx=>by simp at hx⟩ ?_ ?_
  . rintro j d σ g hd ⟨⟨o1,o2,o3,o4,o5,o6,rfl⟩,hc⟩
    obtain⟨hj,rfl⟩:=i4 hd
    have hj8:j<10:=by
     revert hj;split<;>omega
    simp [iter]
    refine(Ll 58).w (by omega) fun cs hh=>?_
    have hc1:=hc.app hh
    simp
    generalize g.length=n at *
    refine(wb 58).w (by decide) (by decide) (by decide) hh fun r g1 r0 r1 h1 f1=>?_
    have hc2:=hc1.fr f1 h1
    simp
    refine(wb 58).w (by decide) (by decide) (by decide) h1 fun r' g1' r0' r1' h1' f1'=>?_
    have hc2':=hc2.fr f1' h1'
    obtain⟨most,hm,em⟩:∃most:Nat,most<=12/\iL (.lst [.int 7,.int 7,.int 7,.int 12]) (.int r') g1'=some (.int most,g1'):=by
     have h4:r'=0\/r'=1\/r'=2\/r'=3:=by omega
     rcases h4 with rfl | rfl | rfl | rfl
     . exact⟨7,by omega,by simp [cR]⟩
     . exact⟨7,by omega,by simp [dD]⟩
     . exact⟨7,by omega,by simp [jZ]⟩
     . exact⟨12,by omega,by simp [mL]⟩
    refine⟨_,em,?_⟩
    rw [GZ 55]
    refine DM (most:=most) (wb 57) (CK 56) (Du 55) (by decide) (by omega) (by omega) (by omega) h1' hc2' fun rws g3 R h3 f3=>?_
    have hc4:=hc2'.fr f3 h3
    simp only
    rw [Ho 58]
    refine Dr (by omega) (by omega) (by omega) R hc4 fun dF ixs T=>?_
    obtain⟨w1,w2,w3⟩:=Bi R T
    have hlen:=R.len
    have w1':rws.map (kZ dF)=(qQ dF rws).map rt:=w1
    have w2':∀x∈qQ dF rws,bx (1+r) x:=w2
    have xl:(qQ dF rws).length=rws.length:=by simp [qQ]
    rw [w1']
    generalize qQ dF rws=xs at *
    simp [cR]
    rw [Hk 55]
    refine CH (wb 57) (CK 56) (Du 55) (by decide) (by omega) (by omega) w2' (by omega) h3 hc4 fun ys g4 hy hyl h4 f4=>?_
    have hc5:=hc4.fr f4 h4
    obtain⟨q5,q6,er⟩:=AN (k:=56) (n:=n) (g:=g4) (c0:=some (.lst (ns.map .int))) (c1:=some (.int j)) (c5:=o5) (c6:=o6) (by omega) (by omega) hy (by omega) hc5
    simp
    refine⟨_,er,?_⟩
    exact⟨⟨_,_,_,_,_,_,rfl⟩,hc5⟩
  . rintro σ g ⟨⟨o1,o2,o3,o4,o5,o6,rfl⟩,hc⟩
    simp
    rfl
 obtain⟨⟨d,g'⟩,e,h⟩:=main
 cases h
 exact⟨g',e⟩
end K48
namespace K48
open PySem PySem.Spec PyProof.Rows L2 L3 RI
theorem walk {l:PySem.W.OpenLaw}{q:Program}{loose:List Str}{XP:(Str->Option Value)->Heap->Prop}{YP:World->Heap->Prop}{d:DefRec}{K:Params->PySem.W.Frag}(hn:l.most=some 63)(hdf:d.params.defaults = [])(hdn:d.name = "law")
  (hY:∀(w:World) (h:Heap),YP w h->(K w.params).In h)
  (F:∀(w:World) (mg:Str->Option Value) (h:Heap),(K w.params).In h->h.Ns mainGlobals mg->At (K w.params) w mg mo) :
  PySem.W.WalkO q loose XP YP l.row.toRowW d [] (fun f vs=>PySem.call f vs) :=
 RI.AB (i:=22) (R:=60) (x:="_law_script") hn ⟨rfl,by decide,by decide,rfl⟩ hdf hdn hY F rfl rfl rfl good xS
end K48
open PySem PySem.W PyProof.Rows
theorem PySem.W.Fast.te11054659209601160786:True:=trivial
theorem PySem.W.Fast.tw4070552820724387449:True:=trivial
theorem PySem.W.Fast.tw17506873040217904855:True:=trivial
theorem PySem.W.Fast.tw13270935616953677586:True:=trivial
theorem PySem.W.Fast.tw8166322631281961308:True:=trivial
theorem PySem.W.Fast.tw7552818484774922089:True:=trivial
theorem PySem.W.Fast.tw9652834733315850043:True:=trivial
theorem PySem.W.Fast.tw12052930263558754097:True:=trivial
theorem PySem.W.Fast.tw11824969022465860219:True:=trivial
theorem PySem.W.Fast.tw14186048261280442554:True:=trivial
theorem PySem.W.Fast.tw2338587141317426631:True:=trivial
theorem PySem.W.Fast.tw7188750824296040625:True:=trivial
theorem PySem.W.Fast.tw8054641841077614538:True:=trivial
theorem PySem.W.Fast.tw16966530153781532713:True:=trivial
theorem PySem.W.Fast.tw5305042846278412969:True:=trivial
theorem PySem.W.Fast.tw9643631428326078099:True:=trivial
theorem PySem.W.Fast.tw6937953292327299470:True:=trivial
theorem PySem.W.Fast.tw9249020415790656792:True:=trivial
theorem PySem.W.Fast.tw4696204292487126012:True:=trivial
theorem PySem.W.Fast.tw2879169200454855284:True:=trivial
theorem PySem.W.Fast.tw3040120248242722260:True:=trivial
theorem PySem.W.Fast.tw1239293355903668336:True:=trivial
theorem PySem.W.Fast.tw14709305897906011626:True:=trivial
theorem PySem.W.Fast.tw6412678994987881377:True:=trivial
theorem PySem.W.Fast.tw1284487930143950182:True:=trivial
theorem PySem.W.Fast.tw1784168289739882971:True:=trivial
theorem PySem.W.Fast.tw7008736581086685740:True:=trivial
theorem PySem.W.Fast.tw11765496571132230774:True:=trivial
theorem PySem.W.Fast.tw2904144279128306026:True:=trivial
theorem PySem.W.Fast.tw5042829533081442754:True:=trivial
theorem PySem.W.Fast.tw9894151630072696788:True:=trivial
theorem PySem.W.Fast.tw12854627366660382453:True:=trivial
theorem PySem.W.Fast.tw5076533686990818747:True:=trivial
theorem PySem.W.Fast.tw17031058272227035920:True:=trivial
theorem PySem.W.Fast.tw13753757053653534113:True:=trivial
theorem PySem.W.Fast.tw12070525949857765172:True:=trivial
theorem PySem.W.Fast.tw7781527613151808366:True:=trivial
theorem PySem.W.Fast.tw2513592184028705135:True:=trivial
theorem PySem.W.Fast.tw16551523659995505602:True:=trivial
theorem PySem.W.Fast.tw9764161235644978037:True:=trivial
theorem PySem.W.Fast.tw17335948644308664207:True:=trivial
theorem PySem.W.Fast.tw5572567900956153057:True:=trivial
theorem PySem.W.Fast.tw9056126130140827291:True:=trivial
theorem PySem.W.Fast.tw14120499823230955398:True:=trivial
theorem PySem.W.Fast.tw4588382009904458852:True:=trivial
theorem PySem.W.Fast.tw841367109607883423:True:=trivial
theorem PySem.W.Fast.tw2954547828066555526:True:=trivial
theorem PySem.W.Fast.tw12931551931020340998:True:=trivial
theorem PySem.W.Fast.tw12471890020058645786:True:=trivial
theorem PySem.W.Fast.tw16352203125817435169:True:=trivial
theorem PySem.W.Fast.tw12688748731500175088:True:=trivial
theorem PySem.W.Fast.tw4878649968568110270:True:=trivial
theorem PySem.W.Fast.tw11212296800548754370:True:=trivial
theorem PySem.W.Fast.tw1896336396873395377:True:=trivial
theorem PySem.W.Fast.tw6317133724832812640:True:=trivial
theorem PySem.W.Fast.tw16199550116998761532:True:=trivial
theorem PySem.W.Fast.tw7379383313595920577:True:=trivial
theorem PySem.W.Fast.tw12873335959285477199:True:=trivial
theorem PySem.W.Fast.tw7075411571127574602:True:=trivial
theorem PySem.W.Fast.tw5873484728225551490:True:=trivial
theorem PySem.W.Fast.tw5004827043583090714:True:=trivial
theorem PySem.W.Fast.tw5291793897125374405:True:=trivial
theorem PySem.W.Fast.tw17411771019711954232:True:=trivial
theorem PySem.W.Fast.tw1044162764139427490:True:=trivial
theorem PySem.W.Fast.tw4619921008633342144:True:=trivial
theorem PySem.W.Fast.tw15004950458539166865:True:=trivial
theorem PySem.W.Fast.tw7903206371151225221:True:=trivial
theorem PySem.W.Fast.tw17485510446857502763:True:=trivial
theorem PySem.W.Fast.tw15144789792794447456:True:=trivial
theorem PySem.W.Fast.tw2568644254833726937:True:=trivial
theorem PySem.W.Fast.tw15429410331973191202:True:=trivial
theorem PySem.W.Fast.tw15316656447604164180:True:=trivial
theorem PySem.W.Fast.tw14351559922217645871:True:=trivial
theorem PySem.W.Fast.tw17656756663721345982:True:=trivial
theorem PySem.W.Fast.tw9584795480192312220:True:=trivial
theorem PySem.W.Fast.tw723486924961752530:True:=trivial
theorem PySem.W.Fast.tw15756657360244972247:True:=trivial
theorem PySem.W.Fast.tw3108976296293078492:True:=trivial
theorem PySem.W.Fast.tw3888911940331359895:True:=trivial
theorem PySem.W.Fast.tw3677115083485900171:True:=trivial
theorem PySem.W.Fast.tw6817523091169092997:True:=trivial
theorem PySem.W.Fast.tw7885198296613026794:True:=trivial
theorem PySem.W.Fast.tw4473660723102838942:True:=trivial
theorem PySem.W.Fast.tw16853931110287557359:True:=trivial
theorem PySem.W.Fast.tw13260205466792604435:True:=trivial
theorem PySem.W.Fast.tw2341306797685717433:True:=trivial
theorem PySem.W.Fast.tw7554018842935866938:True:=trivial
theorem PySem.W.Fast.tw6664992363910553287:True:=trivial
theorem PySem.W.Fast.tw10334556058287635937:True:=trivial
theorem PySem.W.Fast.tw14871562589700301649:True:=trivial
set_option maxRecDepth 100000 in
set_option maxHeartbeats 0 in
theorem PySem.Challenge.cw_wholeglance_k48_orders_or_none_holds : PySem.Challenge.rw_wholeglance_k48_orders_or_none.Holds := by
  w_on; o_law; k_head; (case hw => w_witness2)
  k_fill
  refine K48.walk (l := PySem.Challenge.rw_wholeglance_k48_orders_or_none) rfl rfl rfl (fun w h Y => by first | exact PySem.W.kIn_of Y | exact PySem.W.km_in_of Y) ?F
  case F =>
    intro w mg h KX G
    refine' ⟨_, _, (RI.b6.cons (nm := "zeros") (ps := ["count"]) (st := K48.top 1) ?a0 ?l0 ?e0 ?k0 (RI.rY (fun _ => rfl))
    (RI.b6.cons (nm := "is_ahead") (ps := ["row", "other"]) (st := K48.top 3) ?a1 ?l1 ?e1 ?k1 (RI.jt (fun _ _ => rfl))
    (RI.b6.cons (nm := "bits_of") (ps := ["numbers"]) (st := K48.top 5) ?a2 ?l2 ?e2 ?k2 (RI.rY (fun _ => rfl))
    (RI.b6.cons (nm := "ended_bits") (ps := ["story"]) (st := K48.top 6) ?a3 ?l3 ?e3 ?k3 (RI.rY (fun _ => rfl))
    (RI.b6.cons (nm := "plan_of") (ps := ["story"]) (st := K48.top 7) ?a4 ?l4 ?e4 ?k4 (RI.rY (fun _ => rfl))
    (RI.b6.cons (nm := "leads") (ps := ["plan", "done", "state"]) (st := K48.top 8) ?a5 ?l5 ?e5 ?k5 (RI.v9 (fun _ _ _ => rfl))
    (RI.b6.cons (nm := "fits") (ps := ["row", "state"]) (st := K48.top 9) ?a6 ?l6 ?e6 ?k6 (RI.jt (fun _ _ => rfl))
    (RI.b6.cons (nm := "state_behind") (ps := ["row", "state"]) (st := K48.top 10) ?a7 ?l7 ?e7 ?k7 (RI.jt (fun _ _ => rfl))
    (RI.b6.cons (nm := "way_to") (ps := ["came", "room"]) (st := K48.top 12) ?a8 ?l8 ?e8 ?k8 (RI.jt (fun _ _ => rfl))
    (RI.b6.cons (nm := "ordered") (ps := ["places", "story"]) (st := K48.top 14) ?a9 ?l9 ?e9 ?k9 (RI.jt (fun _ _ => rfl))
    (RI.b6.cons (nm := "rows_done") (ps := ["done", "rows"]) (st := K48.top 15) ?a10 ?l10 ?e10 ?k10 (RI.jt (fun _ _ => rfl))
    (RI.b6.cons (nm := "_law_hand") (ps := ["_law_script", "_law_k"]) (st := K48.top 17) ?a11 ?l11 ?e11 ?k11 (RI.jt (fun _ _ => rfl))
    (RI.b6.cons (nm := "_law_take") (ps := ["_law_hand_here", "_law_many"]) (st := K48.top 18) ?a12 ?l12 ?e12 ?k12 (RI.jt (fun _ _ => rfl))
    (RI.b6.cons (nm := "_law_pick") (ps := ["_law_hand_here", "_law_some"]) (st := K48.top 19) ?a13 ?l13 ?e13 ?k13 (RI.jt (fun _ _ => rfl))
    (RI.b6.cons (nm := "_law_some_value") (ps := ["_law_hand_here"]) (st := K48.top 20) ?a14 ?l14 ?e14 ?k14 (RI.rY (fun _ => rfl))
    (RI.b6.cons (nm := "_law_rows") (ps := ["_law_hand_here", "_law_places", "_law_most"]) (st := K48.top 21) ?a15 ?l15 ?GZ ?k15 (RI.v9 (fun _ _ _ => rfl))
    (RI.b6.cons (nm := "_law_told") (ps := ["_law_places", "_law_rows_here"]) (st := K48.top 22) ?a16 ?l16 ?Ho ?k16 (RI.jt (fun _ _ => rfl))
    (RI.b6.cons (nm := "_law_bent") (ps := ["_law_hand_here", "_law_places", "_law_rows_here"]) (st := K48.top 23) ?a17 ?l17 ?Hk ?k17 (RI.v9 (fun _ _ _ => rfl))
    (RI.b6.cons (nm := "_law_fits") (ps := ["_law_places", "_law_rows_here", "_law_order"]) (st := K48.top 24) ?a18 ?l18 ?e18 ?k18 (RI.v9 (fun _ _ _ => rfl))
    (RI.b6.cons (nm := "_law_behind") (ps := ["_law_rows_here", "_law_done", "_law_state"]) (st := K48.top 25) ?a19 ?l19 ?e19 ?k19 (RI.v9 (fun _ _ _ => rfl))
    (RI.b6.cons (nm := "_law_all") (ps := ["_law_places", "_law_rows_here"]) (st := K48.top 26) ?a20 ?l20 ?e20 ?k20 (RI.jt (fun _ _ => rfl))
    (RI.b6.cons (nm := "_law_ended") (ps := ["_law_rows_here", "_law_done"]) (st := K48.top 27) ?a21 ?l21 ?e21 ?k21 (RI.jt (fun _ _ => rfl))
    (RI.b6.cons (nm := "law") (ps := ["_law_script"]) (st := K48.top 28) ?a22 ?l22 ?e22 ?k22 (RI.rY (fun _ => rfl))
    RI.b6.nil))))))))))))))))))))))),
    (RI.bc ?z_len (RI.bc ?z_max (RI.bc ?z_min (RI.bc ?z_int (RI.bc ?z_tuple (RI.bc ?z_list (RI.bc ?z_all (RI.bc ?z_any (RI.bc ?z_sum (RI.bc ?z_sorted (RI.bc ?z_dict (RI.bc ?z_range (RI.bc ?z_enumerate (RI.bc ?z_isinstance (RI.bc ?z_reversed RI.bn))))))))))))))),
    RI.He, RI.He⟩
    all_goals try first | k_is | rfl
