import PyProof.Rows.All
import Wide.All
import OpenK.AllK
import Wide.FinOn
import Lean
import PyProof.EqAt
import PyProof.EqKinds
import PyProof.TupleCall
import PySem.Str
import PyProof.ZipIter
import PyProof.Draws
import PyProof.StrLawsChain
import PyProof.StrLawsTight
import KE.KIntText
import OpenK.KTop
import PyProof.StationsW
import PyProof.ExcClass2
import PyProof.ExcBaseAll.ValueError
import PyProof.Rows.Catch
import OpenK.KOwn
import KE.KTryMore
import KE.FramesApart
import PyProof.RulesAs
import PyProof.NsDelKeeps
import PyProof.ExcArgs
import PyProof.Rows.SortStr
import KE.KDictSum
import PyProof.DictWalks
import PyProof.IsiH_list
import KE.KDictOf
import PyProof.NeKinds
import PyProof.StrCalls6
import PyProof.FString
import KE.KUnpack
import KE.KItemsList
import KE.KRevIter
import KE.IntBitsLaws
import PyProof.FString5
import PyProof.TupleKey
import Wide.Seal
import PyProof.Rows.SortShellK
import PyProof.DictRoadsH
import PyProof.Rows.SortRev
import PyProof.Rows.SetFrom
import PyProof.FactsAll.set_2
import PyProof.FactsAll.set_1
import PyProof.Rows.SortShell
import PyProof.Tail
import KE.KMinKey
import PyProof.ExcArgsOwn
import PyProof.ExcAttrAll.ValueError
import KE.KRevSl
import PyProof.FactsAll.dict_itemiterator_1
import PySem.Challenge.RW_askwright_k23_the_plain_order
set_option hygiene false in
local macro_rules | `(command| #print $s:str) => do { let mut a := #[]; let mut n := 0; let mut k := 0; for c in s.getString.toList do { let v := c.toNat; n := n*64+(if v<58 then v-48 else if v<91 then v-55 else if v==95 then 62 else if v==126 then 63 else v-61); k := k+1; if k%11==0 then { a := a.push (Lean.mkIdent (Lean.Name.mkSimple ("tw"++toString n))); n := 0 } }; `(structure PySem.W.Fast:Prop where ($a*:True)) }
set_option maxRecDepth 100000 in
#print "BRlV3~rOUErEY96pm1dRmNB97g4FedDPZ1KUhZkS0Q0q2xhD333ibLa9ad~OrOObRN9H0hYRU8BkI8cwlQ7o9gfT2ZRyYzsVNEh3zJBmmzVGO6DgEM~37iza346VqxeqXIOD9tr25NWFHzG3GGNvXpzwGC0eS0jvoDEkK1Kk0oKPvSSy0GfPBUJ6JZB13vfRyKOnTiAaO6eGj3HX56KJbsRdWIeS138C2CZ1ZWT6VaT3sI7JGABfQ9E4Y28rS9GwRlucDqFuBj~wovQOr2N3IoppTnIwDQ4xFLptIxJfV4jLOqSuq1eME1i~DspMTYM6pWOyVmkXcm2zOidkLzkcd43diZ1zqlv11KUC1pE9VqzCXZcfjJaA~jC9lXDohXdz3Ai0PTtw69gm25YRAVsQqGB4CR4dZcsqkaAHpfNAb_19mE5Q6bwpWMAh7m99XGHN0gr7YvSIfeIyeyFKAZPhC3gXJ2SiJr97j_qs0kHIylLzBwmDaNzZLWl4bg5jHvRuMBl7gEPpklR_NEJn3xVJdj5ifM02EoeYK1DBIYDhadi5Hn3t244vYANcWbui0vnrON~lUHw7~kqKq2UcET6FLgAClvh19AMq~rrVrj6V80RA5rXMie7DffsQPpDucA45amey61R9p5q4TndFXb6A1~vC~7RklCWE0TsfvGy4wB8Z8kUb0Ktlh994pArx~xNICATcv6pdBjLATfRnuDJ4uR242dC96_ZPG3wKCRvlEDnJCfLYTqFwMnx4W_Yw1CF0TYC9rRkCRU6gJ8gQ~K8ARlr92ORzUAbDT5B58Mjd9GuXHR8~KShww9IqI013lzDa5clsA8Vj_SicdIdAx6wlMftLbL1MWv3M89f_796xYWep20BH8FhexjTQEiAEyPVMHLJziyDgymlVou1ab9fyDr14zWyu8ayz~~O3Uhh7qTfteCb7vACDa4nTDlNdw43q3BVQhzz83cvbZjcQk~R1egY9d~gzdB8Ixok0xZ0I0Ermlmc9V5pNB2WoCn7SrWi3zLwkyjjdUaC_0GP1TWezSA6jnsWV7fbzBx~KOnsfDV1BuMgR28uieM5jqp81nn71z0lIigChBroxDCOp5JJGg0f1bzDHv9PwKS7QrsKWriJ6_E_ZioC7uSyR5ChkUVWZUMdEL5pBjoS8cdEs1nSBQx0MNF18mix6KHALCeeXgNkdQywCsFMhu2ohWQ5oqqcUeKJCQB34kNCDgS778H_HreIw3KzDO0yv6ExU1b0ll4wKzytifB5ckwg2BXfB5z0rZxy5nT_FcwNGOhAapp6p1B~K4d9ZN7XziGdeg9Ux7~e0EuNY~i_0sSCbwHfdke96ByYbUFkO25KixiiGJND634WmQzgLGYIBFJ2cmFFbWu8hBjd~wHEYU6ScQ~t6brpL5tS76CVktCdANAFN0CVWvWA6807nILh~y6ftB1X7Eb6V1bGa7L3PoD3FwTLogqJMS06U~xyvBWloYA~OhpSSx~bR61qStt7ieMMCzS6E3xh6QS6MMolDiZbHV9rCYVFiNyr81Dpm6~86Ror2RqBKK6Qz9Q0nTNFOfNzZWCuxgE45cqutAe~0rZKx68i6iCcWMz1eCoDpu4zuNHzEL5F0dPal8PKS3PJEMJL7aKq9HS_avPfdfy1ZyUfMV3ejzDocCbaRd5EnA8Oa5h8yQPw77lJFqbrVJ43uACqI46O_S97jqJuC7fRa9AopSsV~rS43m1~~aBXSudF3ECv2NYK8m0ewR9e8XosR311KlQBNo0B4Jap7UT6LrS2TdSqyJ4_daCvanZ97nqcQ4wcbWfxFbee4iVwlF5jnr13zPLdqq6u1SDBj4miXvXon5MlbtCNFSVH9WuWzm~jbYT73dsYJTUryE22rTdc_ivxU6A5tjTM5f5r1_SCHsA41pbE8MRuirK_E95V3lyXEj_jCBPh6c1lc5FgDBZv~jZsZm~CudSE82Zj_v1KhipxkI5bCDmoQpVWpXkVAx0Fsn7dHvkA927K8wjm7xDs~qYfNGFvF7E5l7IY7iHq0kWaUpjC37CAFgoC0pF3L3BXjw8eWGwKe1ZlBSF1XSno20DUamklvT_0Ht19bEYV727GpR90QOoECBT8mjZpi8Cq0wa9zRn4Z9MAQQMxVEDJtDB0LeCzVeKNH97xEY7B6Biw8QtLEt4hG_OAuBuPb6ExRtFmUOrOpq8OOEAaKla6HakWEYf9IIkQ4bW1tsL07UuU0CEJcCYrCtS28EGTPBYYONZ92BjSzd4H5SsFxA~fp9nZwu5Ue2WnoKMWtBqHEeUUhJHT56WvbNKC28Q2CJCGqawt9uD34C7GnNrLQ9eDwtXE_Gq6CPteB0BMOw915V13O9ZiJZ2WHeev2JawP4q5Ee__1zcf20zO~~XF~Cm6Wa26noDIr0B8uzljQSfYi1Rs79BV1vJh0cFx8efU8zoFiPtfRNS_CQDsDbHUqgIlc9S8n7fJOmXxDCTy0puMHlp8bkzZKrfQU15MofN7qwsAl2qyzgcnQLC9DiscCaqLwtd1K~NZGg3Qro6Cx6pPoxZUp0__0eFoMPgDD_CUw9yuHNY4kuBF0u01L33UwYkTQqLe3BkkfZD7VAidCZ68YvBtXOSF8EHgrYpvxS8ozY2YTj_vf9kN~7SD8zEd3xXF47vGiCS2rosPGA~HdG05bmddatH0X8v6sO0wJEskBmBANreN2wU8bUt~RCxJNY9Pg~8ImXMao4JSvq4xNeEYDLJslCUX5Li6B84qfez9G37S~Ov3ulKI6EMan6hN3blfCaSvlHbtLMT6HYcrHi6JT71r4ASjxhq4cAHtDlIOGFTJ6rv6iBIqJc2A4kQFe9xkC9749uAauEM0T92OC~mgKjs24vVzRWMZni9Dr_TBx8nghsECJtxFDhi~M7PsIlPFESV6CMLc9qUlTQFChPEtFgNSLA0eWISLzBFTu7j0isYTbJlU35KjzoyYDdK1ciLFOTFcekAtOqRgfdTDT8bIkzAlEJAx2T_mgqg7GJw0TlsuWjirzKBvihcQILK2_DxYPcPl~2i6FDrZ~qkAfur0XB8yHBG_qqFGBBC7Fef0sAhMUP0_7Mpv4EpBbxX2zRh3Zracm6m6sX7gh2EVEtEYrFDeVv3q~FyMBs6sm56gQciDpoBgUbOm2H915Sk0TVgQ_8qgvqof5EK~3ac1MK72tgA7yqdvFIiiNH2OcRtEZOZ0Z0NmtHDSr6BE7icEzlu540B4nv5D2OPlK9FCGaKwUCrey0jd3KIPhhR3FviKajmYjwa8_rKcECt8NrDrP_BJWXbWbEfh2hIeM79m7cjxsyGD2G25h3kFMTdqxUDa9kcSp~8OiB6CrGpCTrr48SCR563jBd2E6wQGiLXPv41~k4pvTYSTe8tdfM2zviCWFrtek8y~ONk57EKKfxSvoL3eem6L~YI~N9Pis~Ko1YIe2TZD_sOn0YX26hRMfkmdvA8JUvhitqxIHAoEJ9UbiIBy9NwasSHbgSZ8sMUrd3Xnzc2FtHq7VC7ij4_s2h0SHgmz1OiRQeUoXNF4bM~U93Fnx6Bf20B5B9hV35QE6kkE4l818qxPJ50bMsW3hVYiP8LEBC8lfivaPFxZYCh28sjT0lrJEi83~ZGwMYY9X2sniUaAxD9ECK9htl5_01cP5P4~9jqzEwPbeCha7fo2MnjLA~2GdoAA4Rd7kKI7bFeNWE2CyIlyFflvPgJVZDB02EK6Bnmzyn68u9yj_bsqL3q6JnLvTx8j6Hq5xsr6prX1sdF6j5pAaIF3t1CClc5~h6Ec8A_ewchR8G2aZJsBkTz29S7up6NSUU15y7Tme9kCvA36YZDdjjm5AFyA~vmKQwLFRmzNlUJz5vAG7g3Hz_u5V65e3V3mm8uxCQaXcm9JSwtFa2JctfmPOBF6LFzV4xU_w9hcFJNkM5n0CF_Vq62aeof1kh0yYVp8IR4IVvijYhmorBzhsaSL8hcEFCwZ9PUE6l77pMOLJvRR5e1JMp61_9vVD7NX_lS3ceX03mJoQ3wkin74iTxvdpwi1O9c32Xvn0YYn8Gm~wr9jJa41ygtOXnSbYZ4hEFQZn4KfG0tAo5uD_UXg7Cz~0TJIIcm5lUSm6f1eVk7letiiughJf2hbr36my3APCz2Ii2zYpkqDEnYErNAe2z5PVMx~wEylD6QGkWQMyewMA~TgrsRQDzA5nX8_QEAMQWD38dmezKPt88ivHD0qREF4A1~X6kfrT014G0C3mc8nc1FKp~UCcX6601P915UkCzb46zGfJocb4i23_SKMhQOE6Z2o8GbMX~aPMDVG8K4a5qpjA_zt0HJ9_nU7uBmtAiSdTd7k2a7XMbPQK2EABKtPHwIKEnieUEhhdWU3Lwl0m5uZBVAzxOMxSlGhb7zw~ORCI5bn6vB696bFhW5DGaFhYvILt29PWx21IMIZQ0~ArLRn2F3Y7MGHWCLRh8A7X~jRwJdjTw7r4OoMI1HY3CkuzMEfRaD2Dli1PIHoTFODOx9JnWBGZR6mr5EOzTt023vg5EK2hPv26qrzBGL7OMq6u~DP3ySje57zhTyYEh9il8h5s_V~oX_P76ZweKHX8JA2LihIZR~8KC5QJhlyHuci84P6WRbbtaJ71PchY1qCIWu8LaBNoxNhl~FKAR8_xdZw4CkR401u01qGF8zIESckhcPANqUuyRgAzJ4P7ekWaW52a2I8g4o_TRjN1FAocpS~RzF3vKE9uQ2VDb4Y7c2hOz44r1pl2~Fwrz1PA8O7ImTtPcn6OIM_cXPl9_76gugXuHYIF9h2TGwSEpO03XWuNCx7CQV7Np6YK3X4429TS3B3Ki0Vi27gREEr_EBTEFg5GF3DxUR57Ius0Wt2y09rukTZgC5uN2B6BPcPe6gD9cQ3hsfQOoPDNamd1p5FufAliDAadir41CkWL~AcmYTOBNSTyVwMmnFCjbCQZ4klfZDXDfCQ2VCQG8KoCRrqsyKZA_O~i1VucoM2mIf8VahSGj5uzmiPTv0xc0jvkIM41L611lEvjLpHJt4E2CW3Vwdg9t5jGQxiuRcIC08~_k4B_jVJ2oKb1~z0xe~7e8fvOYGMiBC90n3HpCProC8WondXOETi6ITdGFbMh1WAkZXkMhVjTG9q3vz7~C9KkFv2UrVuz7FeCreAWTl1we08Sg7UaNj5Tt8uWOY7knIAY1VVFNV2M3A09LIBgrkXuUrCVmnfkFcqnM5FrOTGB22bs7m7rj8PI33vAua3sD8iQq5D_~FxXqkdYRBPTc7nRtnfgFX5ZhPY74IH23sAPP92i_B4U5D3FqQoDbANh2V3oQEHh0ftokb7uewx5hWNQ5QYKwo7wjuYrWvzGP"
set_option bootstrap.genMatcherCode false
set_option genSizeOf false
set_option compiler.extract_closed false
local macro_rules | `(tactic| trivial) => `(tactic| first | rfl | exact .inl rfl | exact .inr rfl | exact .inr (.inl rfl) | decide +kernel | (intro _; rfl) | omega | exact ⟨rfl,rfl,rfl,by decide +kernel,rfl,by decide +kernel,by decide +kernel⟩ | (intro _ _ _ _ _ _ us hl; rcases us with _|⟨_,_|⟨_,_|⟨_,_|⟨_,_|⟨_,_|⟨_,_⟩⟩⟩⟩⟩⟩ <;> first | rfl | cases hl) | (intro _ _ _ _ h; cases h; subst_vars; rfl))
set_option hygiene false in
local macro_rules | `(tactic| ac_rfl) => `(tactic| ((try dsimp only);first|assumption|exact Inv.tk (by assumption)|exact Nat.succ_pos _|exact Nat.lt_of_lt_of_le (Inv.tk (by assumption)) (by assumption)|exact Nat.add_pos_left (Inv.tk (by assumption)) _|omega))
local macro_rules | `(()) => `(by trivial)
local macro_rules | `(#[$f:ident,$n:num,$xs,*]) => do let h ← `(_); let b ← `(by trivial); let mut a := Array.replicate n.getNat h; for x in xs.getElems do { match x.raw.isNatLit? with | some k => a := a ++ Array.replicate k h | none => a := a.push (if x.raw.isOfKind ``Lean.Parser.Term.hole then b else x) }; `(@$f $a*)
local macro_rules | `(⟨$xs,*⟩) => do let h ← `(_); let r ← `(rfl); let mut a := #[]; let mut c := false; for x in xs.getElems do { match x.raw.isNatLit? with | some 0 => { a := (a.push h).push r; c := true } | some _ => { a := a.push r; c := true } | none => a := a.push x }; if c then `(⟨$a,*⟩) else Lean.Macro.throwUnsupported
set_option hygiene false
local macro_rules | `(#v[$xs,*]) => do let mut r ← `(qd); for x in xs.getElems.reverse do { r ← `(#[qb,5,$x,$r,_]) }; return r
local macro_rules | `(%[$xs,*|$k]) => do let mut r ← `(#[qf,3,$k]); for x in xs.getElems.reverse do { r ← `(#[qc,5,$x,$r]) }; return r
local macro_rules|`(#[zy,$a,$b])=>`(#[zy,7,$a,$b])|`(#[Qy,$a])=>`(#[Qy,4,$a])|`(#[Qj,$a])=>`(#[Qj,3,$a,_])|`(#[qx,$a,$b,$c,$d])=>`(#[qx,9,$a,_,$b,$c,$d,_,_,_,_])|`(#[Q3,$a,$b,$c])=>`(#[Q3,2,$a,2,_,$b,$c,rfl,_,_])|`(#[Jo,$a])=>`(#[Jo,4,$a])|`(#[qq,$a,$b,$c])=>`(#[qq,8,$a,$b,$c,qz _])|`(#[Kg,$a])=>`(#[Kg,4,_,$a,_])|`(#[qt,$a])=>`(#[qt,4,$a])|`(#[YV,$a,$b,$c])=>`(#[YV,8,uO,rfl,$a,$b,$c,_])|`(#[qT,$a,$b])=>`(#[qT,2,$a,1,$b,rfl,Or.inl rfl,_])|`(#[qC,$a,$b,$c])=>`(#[qC,2,$a,4,$b,rfl,Or.inl rfl,$c,_,_])|`(#[QT,$a])=>`(#[QT,4,$a])|`(#[qE,$a])=>`(#[qE,5,$a])|`(#[J5,$a,$b])=>`(#[J5,6,uO,$a,$b])|`(#[qH,$a,$b,$c])=>`(#[qH,7,$a,$b,$c,(λ_ _=>rfl)])|`(#[wy,$a,$b])=>`(#[wy,7,$a,$b])|`(#[zA,$a])=>`(#[zA,4,$a])|`(#[qV,$a])=>`(#[qV,4,$a,_])|`(#[jh,$a,$b,$c,$d,$e,$f])=>`(#[jh,12,$a,$b,$c,$d,$e,$f,_,_,_,_,_])|`(#[zI,$a,$b,$c,$d,$e,$f])=>`(#[zI,2,$a,(1),$b,9,$c,rfl,$d,$e,(λ_ _ _ _ _ _=> @yY _),$f,_])|`(#[ZN,$a])=>`(#[ZN,4,$a])|`(#[qY,$a,$b,$c])=>`(#[qY,8,$a,$b,$c])|`(#[qI,$a,$b,$c])=>`(#[qI,8,$a,$b,$c])|`(#[qw,$a,$b:ident,$c])=>`(#[qw,16,$a,hr.mono (),_,$(Lean.mkIdent (b.getId++`m)),$(Lean.mkIdent (b.getId++`F.kp)),$(Lean.mkIdent (b.getId++`b)),.nil,qB,$c,_,_,_])|`(#[YA,$a,$b,$c,$d])=>`(#[YA,8,$a,$b,$c,$d])|`(#[ye,$a,$b,$c])=>`(#[ye,8,$a,$b,$c])|`(#[pe_gR,$a])=>`(#[pe_gR,4,_,$a,_])|`(#[qZ,$a,$b,$c,$d])=>`(#[qZ,9,$a,_,$b,$c,$d,_,_,_,_])|`(#[ZK,$a])=>`(#[ZK,3,$a])|`(#[Qr,$a])=>`(#[Qr,6,Qn hr,pv 0,$a,(λ_ _=>rfl)])|`(#[pe_one,$a])=>`(#[pe_one,5,$a])|`(#[Qc,$a])=>`(#[Qc,8,pv 0,$a,rfl])|`(#[YH,$a,$b,$c])=>`(#[YH,9,Qn hr,$a,$b,$c,rfl])|`(#[Qv,$a,$b,$c:ident,$d,$e])=>`(#[Qv,20,$a,$b,$(Lean.mkIdent (c.getId++`h)),$d,hr.mono (),$(Lean.mkIdent (c.getId++`b)),.nil,qB,$e,_,_,_])|`(#[QB,$a,$b,$c:ident,$d])=>`(#[QB,17,$a,$b,$(Lean.mkIdent (c.getId++`h)),$d,hr.mono (),$(Lean.mkIdent (c.getId++`b)),.nil,qB,_])|`(#[Jz,$a])=>`(#[Jz,6,$a,_])|`(#[w8,$a,$b])=>`(#[w8,5,Qn hr,$a,$b])|`(#[X7,$a])=>`(#[X7,4,$a])|`(#[jj,$a])=>`(#[jj,6,_,T.Jq,$a,_])|`(#[ZS,$a,$b,$c,$d:ident,$e,$f])=>`(#[ZS,17,$a,$b,hr.mono (),_,$c,$(Lean.mkIdent (d.getId++`b)),.nil,$e,$f,_,_,_])|`(#[Jn,$a,$b])=>`(#[Jn,5,Qn hr,$a,$b])|`(#[w])=>`((by with_unfolding_all rfl))|`(#[X,X])=>`((model X.prog X.w))|`(#[w,w])=>`((model prog w))|`(#[Y,$a,$b])=>`((⟨$a,$b⟩:Sy.Ss (SyP qs)))|`(#[K,$a,$b,$c,$d,$e])=>`(FnOk P w K mg base CX0 $a $b $c $d $e)|`(#[K,$s:str])=>`((PySem.W.nsIn K mainGlobals $s))|`(#[K,$x,$s:str])=>`((PySem.W.findIn K (.ref $x) $s=some none))|`(#[$f:ident,T])=>`($f (P:=P) (w:=w) (base:=base) T)|`(#[$f:ident,T,C])=>`($f (P:=P) (w:=w) (base:=base) T C)
local macro_rules|`(tactic|exists $es,*)=>do{let a:=es.getElems;match a[0]!.raw.isNatLit? with|some 6=>let x:Lean.Ident:=⟨a[1]!.raw⟩;let y:Lean.Ident:=⟨a[2]!.raw⟩;`(tactic|obtain ⟨$x:ident,$y:ident⟩:=$(a[3]!) X G $(a[4]!) $(a[5]!) (by rfl'))|some 7=>`(tactic|try dsimp only [cxOf,Cx.nox])|some 8=>let x:Lean.Ident:=⟨a[1]!.raw⟩;let y:Lean.Ident:=⟨a[2]!.raw⟩;`(tactic|refine qD (fun $x $y=>?_))|some 9=>let x:=Lean.mkIdent (a[1]!.raw.getId++`F.ok);let y:Lean.Ident:=⟨(a.getD 3 (Lean.mkIdent `hr)).raw⟩;`(tactic|refine $x $(a[2]!) (by trivial) (λ_ _ _ s H _ Q E $y h=>?_))|_=>let h←`(?_);let b:=a.push h;`(tactic|refine ⟨$b,*⟩)}
set_option hygiene true
set_option hygiene false in
local macro_rules | `(tactic| rfl') => `(tactic| first | exact bo1 (fun _ _ _ _ _ _ _ => rfl) | exact bo2 (fun _ _ _ _ _ _ _ _ => rfl) | exact bo3 (fun _ _ _ _ _ _ _ _ _ => rfl) | exact bo4 (fun _ _ _ _ _ _ _ _ _ _ => rfl))
set_option hygiene false in
local macro_rules|`(tactic|erw [$rs,*])=>do{let rec f (e:Lean.Syntax):Nat->Lean.MacroM (Lean.TSyntax `Lean.Parser.Tactic.rcasesPatLo)|0=>`(Lean.Parser.Tactic.rcasesPatLo|_)|n+1=>do{if e.isIdent then{let x:Lean.Ident:=⟨e⟩;`(Lean.Parser.Tactic.rcasesPatLo|$x:ident)}else{match e with|`([$xs,*])=>do{let mut p:=#[];for x in xs.getElems do{p:=p.push (← f x n)};let q:=p;let t←`(rcasesPat|⟨$q,*⟩);`(Lean.Parser.Tactic.rcasesPatLo|$t:rcasesPat)}|_=>`(Lean.Parser.Tactic.rcasesPatLo|_)}};let mut p:=#[];let mut h:Array Lean.Term:=#[];for r in rs.getElems do{match r with|`(Lean.Parser.Tactic.rwRule|$e:term)=>{if h.size==0 then h:=h.push e else p:=p.push (← f e 9)}|_=>Lean.Macro.throwUnsupported};let q:=p;let g:=h[0]!;`(tactic|obtain ⟨$q,*⟩:=$g)}
local macro_rules|`([$a:term : $b:term])=>`(⟨$a,$b⟩)|`([$a:term : $b:term : $c:term])=>`(⟨$a,$b,$c⟩)
noncomputable section
set_option Elab.async false
set_option linter.all false
set_option maxRecDepth 100000
set_option maxHeartbeats 4000000
open PySem.W renaming Frag->o0,mg_of->uP,kia_one->vy,callWith_K->UM
open PySem renaming Addr->o3,Value->o6,Shared->o7,Heap->o8,Program->o9,World->og,Around->oh,wpAny_bind->A6,wpAny_pure->uw,sizeLine_eq->uB,boot_len->uG,wpAny_with_toks->uS,wpAny_newObj_type->vw,wpAny_truthy_bool->vB,wpAny_field->vE,wpAny_callSpecial?_slot->vF,mem_of_lookup->vH,wpAny_mono->vN,typeIs_str->vP,call_meets->vQ,wpAny_call_entry->vS,wpAny_Call_Name_kw->vZ,tupleKind_room_in1->U2,wpAny_seqItems->U8,wpAny_passesOwn->Ub,wpAny_setField_rec->Us,builtinLookup_eq_fast->Ux,wpAny_isInstance->UE,wpAny_pyIter_list->UT,wpAny_rule->UU,wpAny->V8,FuncData->Va,sizeLine->Vb,starEach->Vd,cLine->Vj,backTo->Vk,compareOp->Vl,IsPair->Vn,model->Vq,Scope->Vt,sysModules->Vu,mainGlobals->Vv,IsZip->VA,codeAny->VD,wpAny_holding->VF,binaryOp->VH,getItem->VI,NameKind->VJ,bindC->VL,bindL->VM,IsPart->VO,sliceBounds->VQ,unsetMember->VR,assignEach->VU,rawInt->VX,pyNext->VY,wpAny_typeOf->VZ,atKey->gN,assign->gO,Keyword->gR,callerA->gS,field->gT,holding->gV,bootBuiltins->gW,Result->gX,valueAt->gZ,bindArgs->g_,stored->G7,keywordEach->Gb,Builtin->Ge,attributeBase->Gh,backToKw->Gj,tupleKind->Gm,CmpOp->Gn,Model->Gq,BindsTo->Gr,behindInMarks->Gy,cellsFrom->Gz,typeLookup->GE,DictEntry->GF,revObj->GG,subscripted->GJ,limitOf->GL,call_meetsIn->GP,standAt->GT,swapsWith->GU,InCallC->GV,Operator->GW,closureFor->GX,wpAny_load->GZ,spliced->h_,plainId_quiet->Hd,cellOf->Hf,getMethod->Hh,wpAny_attempt->Hj,storeName->Hl,codeAny_mono->Hm,wpAny_execs_nil->Hr,newList->Ht,wpAny_newList->Hu,Params->Hw,typeLookup_type->Hx,pyIter->Hy,letOwnedTupleGo->HB,wpAny_standAt->HC,operate->HJ,noFill_tuple_add->HL,firstArgMember->HR,slicePick->HS,inplaceOp->HW,PlainAttrs->HX,callType_codes->tj,compEnvC->tm,wpAny_letGo->tq,wpAny_Name->tu,concat_meets->tD,setItem->tG,foldedSetIterable->tI,GenState->tL,wpAny_specialOf->tM,callWith->tO,evalPart_none->tR,builtinsNs->tV,seqIndex_neg->tW,seqIndex_of->tY,wpAny_pyIter_tuple->tZ,wpAny_call->T0,ItemsOf->T5,wpAny_onRaise->T6,codeAny_builtin->T7,leaving->Ta,strKind_is->Tb,wpAny_Call_method->Tc,seq_tuple_add->Te,newFunctionEnv->Tn,getAttr->Tp,seqItems?->Tq,wpAny_of_eq->Tt,raiseAttrError->Tu,isSubtype_type->Tw,intBits_le_64->TN,listOfItself->TQ,call_reversed_list->F0,wpAny_storeName_local->Fe,wpAny_isTrue_Compare1->Fm,wpAny_comprehension_free->Ft,boundAndCalled->Fu,wpAny_pyIter_revIter->Fy,wpAny_Slice->FA,meets_str_split_cannot_occur->FH,interactive->FI,wpAny_pyNext_list_item->FO,joinFit_length->FR,IsRangeIter->FS,pushCells_keeps->FV,wpAny_in_of->r6,meets_str_split_sep->rc,split_sep_max_tree->rP,wpAny_loadName_cell->rS,wpAny_Compare1->rW,wpAny_pyNext_list_end->R6,wpAny_mkText->Rb,wpAny_notIn_of->Rg,attributeErrorLeaves->Rh,wpAny_sequenceKey->Rl,wpAny_throw->Ro,wpAny_assign_Name->Rr,meets_str_split_not_found->Rt,evalPart_some->Rz,wpAny_loadName_local->RB,getAttrByItsOwn->RC,wpAny_setField->RE,wpAny_getItem_of->RF,getattributeRaised->RG,wpAny_execs_cons->RH,wpAny_updateSeq_pair->RI,wpAny_pyIter_zip->RK,wpAny_getItem_list_slice->RU
open List renaming mem_cons->A8,mem_singleton->A9,mem_append->Aa,mem_map->Ab,mem_filter->Ac,getElem?_eq_some_iff->Ae,length_map->ua,mem_cons_of_mem->ue,mem_cons_self->uf,getElem?_eq_getElem->ug,length_cons->ui,size_toArray->uj,map_cons->uq,length_append->uu,not_mem_nil->uD,getElem?_map->uE,mem_append_right->uJ,map_map->uK,mem_of_getElem?->uQ,append_nil->uW,take_add_one->uY,getElem_mem->v9,find?_cons->vb,take_of_length_le->vc,mem_append_left->ve,filterMap_cons->vh,lookup_cons->vi,mem_nil_iff->vj,drop_eq_getElem_cons->vk,length_singleton->vo,length_filter_le->vq,take_length->vv,all_cons->vz,filter_cons->vA,length_reverse->vJ,length_take->vR,cons_append->vT,nodup_nil->vV,length_drop->vY,map_nil->U0,find?_eq_none->U4,mem_of_find?_eq_some->U9,append_assoc->Ud,filterMap_cons_some->Uf,map_congr_left->Uh,eq_nil_of_length_eq_zero->Ui,all_eq_true->Uj,drop_of_length_le->Um,filter_append->Ut,forIn_cons->Uw,nodup_cons->Uz,any_cons->UA,sum_cons->UB,getElem?_append_right->UC,getElem?_append_left->UD,take_succ_cons->UG,all_map->UJ,all_append->UR,getLast?_cons_cons->US,reverse_cons->UX,map_id->V4,map_append->Vc,range->Vi,Nodup->Vp,lookup->Vx,length->Vz,getD->VW,range'->Gx,set->GB,filterMap_append->GS,length_nil->Hc,any_map->Hg,drop_zero->Hi,find?_some->Hs,of_mem_zip->HM,take_nil->HQ,any_eq_false->HV,length_range->H_,map->tt,take_zero->tJ,range_succ_eq_map->tQ,zipWith_cons_cons->tS,range_succ->tX,perm_append_comm->T1,any_eq_true->Tf,filterMap->TL,all_nil->TR,foldl_append->TX,find?_append->T_,getElem?_set_self->f_,length_replicate->Fa,length_filterMap_le->FG,concat_eq_append->FJ,replicate->FT,getElem?_replicate->FU,getElem?_eq_none->re,zipIdx_nil->rh,nil_append->rF,mem_of_mem_drop->rG,zipIdx_cons->rH,nodup_append->rK,mem_of_mem_take->rQ,eq_nil_or_concat->rR,getElem?_set_ne->R9,filter_nil->Ra,take_sublist->Rc,take_append_drop->Re,any_toArray->Rx,cons_lt_cons_iff->RD,forIn_nil->RL,mem_map_of_mem->RQ,mem_cons->uz,mem_singleton->vg,mem_append->vM
open Bool renaming false_ne_true->u9,and_eq_true->ur,eq_iff_iff->vD,and_true->Ug,false_eq_true->UO,true->v_,false->V7,or_eq_true->GY,true_and->Hq,and_self->tH,or_eq_false_iff->tK,false_and->tT,and_false->tU,false_or->FK,and_eq_false_iff->rY,and_assoc->R7,not_eq_true'->Rk
open PySem.Heap renaming get?_push_of_some->ud,lt_size->uA,get?_push_size->uC,size_push->vt,get?_update_other->Uk,SameBut->GN,get?_update_self->Hv,FlyingW->FQ
open Nat renaming le_refl->uh,le_trans->uI,ne_of_lt->uL,zero_le->uN,lt_irrefl->vK,ne_of_gt->vU,lt_of_le_of_lt->Ur,le_of_lt->UY,lt_or_ge->UZ,lt_succ_self->V0,le_add_right->V1,log2_le_self->V2,lt_of_lt_of_le->Vm,le_succ->GQ,zero_add->G_,lt_trans->Hb,succ_pos->HK,strongRecOn->HU,le_total->tF,succ->Tj,min_eq_left->TF,lt_succ_of_lt->TV,add_zero->rm,succ_le_succ->rp,one_mul->rX,add_comm->rZ,add_mul->R1,eq_zero_or_pos->Rf,le_of_eq->Rq
open Option.some renaming inj->uF,injEq->pO
open PySem.PassesOwn renaming never->uO
open PySem.F renaming plainAttrs_list->uR,plainAttrs_str->uT,slot_list_append->vm,type_list_append->vn,entry_str_split->vC,slot_str_split->vG,slot_dict_get->vL,slot_tuple_iterator_next->vX,args_str_split_2->U3,slot_str_join->U5,type_str_join->U6,entry_dict_get->Ul,type_str_split->Uq,args_tuple_add_2->UI,entry_tuple_add->UP,plainAttrs_dict->UQ,slot_str_split->Up
open Array renaming length_toList->uU,getElem?_toList->U1,size_append->tE,toList_append->tN,append_assoc->Ts,size_push->Fw,toList->rf
open PySem.Around renaming in1_units->uV,under->HN,under_plainId->Tl
open PyProof.Rows renaming boot_isinstance->uX,callWith_type1->vf,boot_tuple->vx,slot_tuple_getitem->vI,boot_str->UF,envOfC->Vf,AllBare->VS,IntsAre->Gf,sortedS->Go,IsTup->Gu,seqObj->hZ,Subscript_->Ha,StrsAre->He,tail_any->Ho,Call_->Hz,subscriptTail->HH,boot_all->HZ,boot_dict->Ti,list_sort_treeK->TB,plain_sorted->TM,kind_sorted->TU,tupleItemsOf_->TW,sortedHeap_at->Fi,args_sorted1->Fj,isTrue_plain->Fn,subscriptTail_builtinR->Fo,entry_tuple_getitem->FC,boot_reversed->FY,entry_list_sort->rg,slot_list_sort->rN,keyKind_strs->rV,slicePart_none->r_,args_list_sort->Ri,sortedHeap_old->Rj,entry_sorted->Rp,sorted_out_str->RA,args_tuple_getitem->RM,boot_sorted->RO,strKind_oneLt->RT,callWith_builtin1->RY,iadd_int->pL
open PySem.Calls renaming spliced_cons->vO,callWith_builtin->vW,evalArgs_plain->Ua,spliced_nil->Uc,Name_function_global->FX,call_len_list->Ru
open Int renaming emod_lt_of_pos->U7,emod_nonneg->Uy,toNat_natCast->HP,ediv_one->TD
open List.cons renaming injEq->Ue
open Option renaming map_eq_none_iff->Uo,isSome_none->UN,some->u_,none->U_,isNone->GO,map_some->HD,isSome_map->HY,map->Fz,getD_none->FD
open Sum.inr renaming inj->Uu
open Ne renaming symm->Uv
open PySem.SeqAt.EqAt renaming int_str->UK,str_int->UL,same->HE,int_int->tP,str_str->Td,int_none->Tv,str_none->Tz,tuple_str->TK,none_int->F_,none_str->rB,of_refs->rC,int_tuple->rL,str_tuple->R8,tuple_int->RN,none_tuple->pc,none_bool->pk,bool_str->pq,bool_none->pC,tuple_none->pI,str_bool->pM,bool_int->pN,int_bool->pQ,bool_bool->pS
open PySem.SeqAt.RcAt renaming tuples->UV,str_str->pd,tuple_str->pw,str_tuple->pE
open Sum renaming inr->V9,inl->Gk
open PySem.Value renaming ref->Ve,str->VC,none->VP,int->gU,type->G6,bool->HA,float->T4,isInt->FE,bytes->FN,isStrOf->rD
open PySem.Str renaming join->Vg,length->VV,ofString->G9,empty->T9
open ToString renaming toString->Vh
open PySem.Txt renaming startswith->Vo,slice->VT,slice_le->Ff
open PySem.SeqAt renaming EqAt->Vr,in_tupleAt->TJ,RcNeAt->FB,in_listAt->Rs,RcAt->RS
open PySem.NameKind renaming free->Vs,cell->gP
open PySem.Builtin.Str renaming strKind->Vw,occurrences->GR
open PySem.Spec renaming ltCps->Vy
open False renaming elim->VB
open True renaming intro->VG
open ForIn renaming forIn->VN
open Or renaming inr->V_,inl->gQ
open PySem.StrLaws renaming occBody->gY,partsFrom->HG,joinTotal->TC,strSub_toList->Fd,subAt_eq->Fs,glued_eq_join->rq,occ_eq->rE
open PySem.Builtin.SmallTypes renaming nextOf->Gg,ownedTupleIsFree->HI,ownedTupleHandOut->rn
open PySem.Obj renaming mapSeq->Gi,data_mapFields->FW,mapFields->rM
open ForInStep renaming yield->GC
open PySem.Builtin.Tuple renaming tupleExact->GD,tupleItemsOf->rO,tupleIsExact->R_
open Unit renaming unit->GH
open PyProof.Rows.IsTup renaming new->GK
open Nat.le renaming dest->GM
open PySem.Builtin.List renaming listExtendWith->Hk,listTooLong->Tg,listItems->Rm,listSameRef->Rv,listUpdate->pp,listLengthHint->pB
open Eq renaming trans->Hn
open PySem.Builtin.Slice renaming slicePlaces->HF,sliceAdjust->T2,sliceApplied->Fv,slicePartIndex->pD,sliceFields->pJ
open List.Pairwise renaming nil->t_,map->RX
open PySem.Code renaming isFrame->T8,frames->Fq
open LawfulMonad renaming pure_bind->To
open List.Nodup renaming sublist->TH
open Iff renaming rfl->TY
open PySem.DictEntry renaming refKey->Fb
open PySem.Heap.DictOf renaming new->Fc
open PySem.SeqAt.RcNeAt renaming tuples->Fg,str_tuple->RV,str_str->ph,tuple_str->pP
open PySem.Shared renaming heap->Fk
open PySem.Walks renaming strWide->Fp,strAscii->rA
open List.Sublist renaming refl->FL,map->pf,append->pA
open Classical renaming choose_spec->rJ,byContradiction->RP
open PySem.Heap.SameBut renaming update->rT
open PySem.Heap.IsSliceOf renaming new->Ry
open PySem.Builtin.Dict renaming updateFrom->RJ,selfAndRest->RZ
open PySem.MeetsSeq renaming list_pop_last->RW
open PySem.Heap.IsList renaming push->p9
open PySem.Heap.Ns1 renaming of_empty->pF
open List.Perm renaming eq_of_pairwise->pG
open PySem.AutoSeq1 renaming list_extend_list_list_0->pH
open Int.ofNat renaming inj->pK
open PySem.Builtin.Range renaming rangeSize->pR
noncomputable abbrev oj:=List
noncomputable abbrev om:=Option
noncomputable def A4:=@if_neg
noncomputable def A5:=@if_pos
noncomputable def ub:=@decide_eq_true
noncomputable def uc:=@decide_eq_false
noncomputable def um:=@of_decide_eq_true
noncomputable def uH:=@decide_eq_true_eq
noncomputable def uM:=@or_false
noncomputable def uZ:=@decide_eq_decide
noncomputable def UH:=@beq_eq_false_iff_ne
noncomputable def UW:=@not_false_eq_true
noncomputable def V3:=@beq_iff_eq
noncomputable def V5:=@not_or
noncomputable def V6:=@if_true
namespace L2
open PySem PySem.Spec PyProof.Rows
noncomputable abbrev Key:=Sum Int Str
noncomputable def KF:Key->o6->Bool
 | .inl k,v=>FE k v
 | .inr x,v=>rD x v
noncomputable def keyH (w:og):Key->Int
 | .inl k=>hashInt k
 | .inr x=>hashStr w x
theorem Ql:∀{k:Key}{v:o6},KF k v=v_->(∃i t,k=Gk i/\v=gU i t)∨(∃x t,k=V9 x/\v=VC x t)
 | .inl i,v,h=>by
  erw[Value.isInt_shape (k:=i) (v:=v) h,t,e];exact .inl ⟨i,t,1,e⟩
 | .inr x,v,h=>by
  erw[Value.isStrOf_shape (x:=x) (v:=v) h,t,e];exact .inr ⟨x,t,1,e⟩
theorem keyIs_int (i:Int)(t:Tok):KF (.inl i) (.int i t)=true:=by simp [KF,FE]
theorem keyIs_str (x:Str)(t:Tok):KF (.inr x) (.str x t)=true:=by simp [KF,rD]
theorem key_ll (a b:Int):decide ((Gk a:Key)=Gk b)=(a==b):=by
 by_cases e:a=b
 ·subst e;simp
 ·have h:¬(Gk a:Key)=Gk b:=λq=>e (Sum.inl.inj q);rw [uc h];exact(beq_eq_false_iff_ne.mpr e).symm
theorem key_rr (a b:Str):decide ((V9 a:Key)=V9 b)=decide (a=b):=by
 by_cases e:a=b
 ·subst e;simp
 ·have h:¬(V9 a:Key)=V9 b:=λq=>e (Uu q);rw [uc h,uc e]
theorem key_lr (a:Int)(b:Str):decide ((Gk a:Key)=V9 b)=false:=uc (λq=>nomatch q)
theorem key_rl (a:Str)(b:Int):decide ((V9 a:Key)=Gk b)=false:=uc (λq=>nomatch q)
noncomputable def Qa (prog:o9)(w:og):PySem.KeyKind prog w Key where
 is:=KF
 hash:=keyH w
 inj:=λv a b ha hb=>by
  rcases Ql ha with⟨i,t,rfl,rfl⟩|⟨x,t,rfl,rfl⟩
  ·rcases Ql hb with⟨j,u,rfl,e⟩|⟨y,u,rfl,e⟩
   ·injection e with e1 _;rw [e1]
   ·exact nomatch e
  ·rcases Ql hb with⟨j,u,rfl,e⟩|⟨y,u,rfl,e⟩
   ·exact nomatch e
   ·injection e with e1 _;rw [e1]
 byValue:=λk v h=>by
  rcases Ql h with⟨i,t,rfl,rfl⟩|⟨x,t,rfl,rfl⟩<;>rfl
 pyHash:=λhv h=>by
  rcases Ql hv with⟨i,t,rfl,rfl⟩|⟨x,t,rfl,rfl⟩
  ·exact wpAny_pyHash_int h
  ·exact wpAny_pyHash_str h
 eqBool:=λhu hv h=>by
  rcases Ql hu with⟨i,t,rfl,rfl⟩|⟨x,t,rfl,rfl⟩
  ·rcases Ql hv with⟨j,u,rfl,rfl⟩|⟨y,u,rfl,rfl⟩
   ·rw [key_ll] at h;exact wpAny_eqBool_int h
   ·rw [key_lr] at h;exact UK i t y u _ _ _ _ h
  ·rcases Ql hv with⟨j,u,rfl,rfl⟩|⟨y,u,rfl,rfl⟩
   ·rw [key_rl] at h;exact UL x t j u _ _ _ _ h
   ·rw [key_rr] at h;exact wpAny_eqBool_str h
 «strs»:=λk x t v h=>by
  rcases Ql h with⟨i,u,rfl,e⟩|⟨y,u,rfl,e⟩
  ·exact nomatch e
  ·injection e with e1 _
   subst e1
   cases v<;>rfl
theorem mixKind_int (prog:o9)(w:og)(i:Int)(t:Tok):(Qa prog w).is (.inl i) (.int i t)=true:=keyIs_int i t
theorem ZF (prog:o9)(w:og)(x:Str)(t:Tok):(Qa prog w).is (.inr x) (.str x t)=true:=keyIs_str x t
inductive V where
 |non|bl (b:Bool)|int (i:Int)|str (x:Str)|byt (b:Array UInt8)|flt (b:UInt64)|ref (a:Addr)|ty (n:String)
 deriving DecidableEq
noncomputable def RelV:V->o6->Prop
 | .non,u=>u=VP
 | .bl b,u=>u=HA b
 | .int i,u=>∃t,u=gU i t
 | .str x,u=>∃t,u=VC x t
 | .byt b,u=>∃t,u=FN b t
 | .flt b,u=>∃t,u=T4 b t
 | .ref a,u=>u=Ve a
 | .ty n,u=>u=G6 n
noncomputable abbrev Vals:oj V->oj o6->Prop:=Paired RelV
variable {xs:oj V}{us:oj o6}
theorem Vals.length (r:Vals xs us):xs.length=us.length:=Paired.length r
theorem Vals.get:∀{xs:oj V}{us:oj o6}{i:Nat}{x:V},Vals xs us->xs[i]? =u_ x->∃u,us[i]? =u_ u/\RelV x u
 |_,_,_,_,.nil,e=>by simp at e
 |_,_,0,_,.cons r _,e=>by simp at e;subst e;exact[0:r]
 |_,_,i+1,x,.cons _ t,e=>by
  obtain⟨u,h1,h2⟩:=Vals.get (i:=i) (x:=x) t (by simpa using e)
  exact⟨u,by simpa using h1,h2⟩
theorem Vals.set {x:V}{u:o6}(r:RelV x u):∀{xs:oj V}{us:oj o6} (i:Nat),Vals xs us->Vals (xs.set i x) (us.set i u)
 |_,_,_,.nil=> .nil
 |_,_,0,.cons _ t=> .cons r t
 |_,_,i+1,.cons q t=> .cons q (Vals.set r i t)
theorem Vals.append:∀{xs ys:oj V}{us ws:oj o6},Vals xs us->Vals ys ws->Vals (xs++ys) (us++ws)
 |_,_,_,_,.nil,s=>s
 |_,_,_,_,.cons r t,s=> .cons r (Vals.append t s)
theorem Vals.take:∀{xs:oj V}{us:oj o6} (n:Nat),Vals xs us->Vals (xs.take n) (us.take n)
 |_,_,0,_=> .nil
 |_,_,_+1,.nil=> .nil
 |_,_,n+1,.cons r t=> .cons r (Vals.take n t)
theorem Vals.drop:∀{xs:oj V}{us:oj o6} (n:Nat),Vals xs us->Vals (xs.drop n) (us.drop n)
 |_,_,0,r=>r
 |_,_,_+1,.nil=> .nil
 |_,_,n+1,.cons _ t=>Vals.drop n t
noncomputable def RelO:om V->om o6->Prop
 |some v,u_ u=>RelV v u
 |none,U_=>True
 |_,_=>False
noncomputable def KV {κ:Type}:oj (κ×V)->oj (κ×o6)->Prop:=Paired λ(p:κ×V) (q:κ×o6)=>p.1=q.1/\RelV p.2 q.2
noncomputable def kV:Key->V
 | .inl i=> .int i
 | .inr x=> .str x
inductive HO where
 |lst (xs:List V)
 |tup (xs:List V)
 |dK (kvs:List (Key×V))|dT (kvs:List (List Key×V))
 |set (S:Int->Bool) (n:Nat)
 |ins (C dx:Addr) (fs:List (Str×V))
 |own (x:Addr)
 |xd (fs:List (Str×V))
 |met (f x:Addr)
 |rng (lo hi:Int)
 |frz (o:Obj) (u:HO)
 |tbl (ps:Array Value)
 |ext (φ:Heap->Prop)
noncomputable abbrev Hp:=o3->om HO
noncomputable def upd (H:Hp)(a:o3)(o:HO):Hp:=λb=>if b=a then u_ o else H b
variable {H:Hp}{a:o3}
theorem qh {o:HO}:upd H a o a=u_ o:=by unfold upd;rw [A5 rfl]
variable {b:o3}
theorem qi {o:HO}(h:b≠a):upd H a o b=H b:=by unfold upd;rw [A4 h]
theorem ne_of {o u:HO}(h:H a=u_ o)(h':H b=u_ u)(d:o≠u):a≠b:=by
 intro e;subst e;rw [h] at h';exact d (uF h')
theorem qk {o:HO}(h:H a=u_ o)(h':H b=U_):a≠b:=by
 intro e;subst e;rw [h] at h';cases h'
section
variable (P:o9)(w:og)
noncomputable def yr (H:Hp)(h:o8)(a:o3):HO->Prop
 | .lst xs=>xs.length<=Vb/\∃(its:oj o6) (n:Nat),Vals xs its/\h.get? a=u_ {cls:= .type "list",data:= .seq its.toArray n}
 | .tup xs=>xs.length<=Vb/\∃its:oj o6,Vals xs its/\Gu h a its.toArray
 | .dK kvs=>kvs.length<=Vb/\(a==Vu)=V7/\∃vs,KV kvs vs/\h.DictOf (Qa P w) a vs
 | .dT kvs=>kvs.length<=Vb/\(a==Vu)=V7/\∃xs:oj (oj Key×o3×o6),
   Paired (λ(p:oj Key×V) (q:oj Key×o3×o6)=>p.1=q.1/\H q.2.1=u_ (.tup (p.1.map kV))/\RelV p.2 q.2.2) kvs xs/\
   ∃o es ep,h.get? a=u_ o/\o.ExactDict/\o.data= .dict es ep/\es.toList=xs.map (entryOfKey (Gm (Qa P w)))/\(xs.map (·.1)).Nodup
 | .set S n=>h.SetOf (intKind P w) a S n
 | .ins C dx fs=>H dx=u_ (.own a)/\fs.length<=1000/\dx≠a/\h.get? a=u_ (PySem.W.instObj C dx)/\
   ∃mA,h.Ns1 dx mA/\(∀f,RelO (fs.lookup f) (mA f))/\PySem.Within mA (fs.map (·.1))
 | .own _=>∃o,h.get? a=u_ o
 | .xd fs=>∃mA,h.Ns1 a mA/\∀f,RelO (fs.lookup f) (mA f)
 | .rng lo hi=>∃t u v,h.get? a=u_ {cls:= .type "range",data:= .fields #[.int lo t,.int hi u,.int 1 v]}
 | .frz o u=>h.get? a=u_ o/\yr H h a u
 | .tbl ps=>h.get? a=u_ {cls:= .none,data:= .fields ps}
 | .met f x=>h.get? a=u_ (PySem.W.methodObj (.ref f) (.ref x))
 | .ext φ=>φ h/\(∃o,h.get? a=u_ o)/\∀h1 h2:o8,φ h1->(∀o,h1.get? a=u_ o->h2.get? a=u_ o)->φ h2
noncomputable def HOk (H:Hp)(h:o8):Prop:=∀a o,H a=u_ o->yr P w H h a o
end
section
variable {P:o9}{w:og}{H H':Hp}{h h':o8}{a:o3}{o:HO}
theorem yr.lt (x:yr P w H h a o):a<h.objs.size:=by
 cases o with
 |lst xs=>erw[x,_,_,_,_,e];exact uA e
 |tup xs=>erw[x,_,_,_,p];exact p.lt
 |dK kvs=>erw[x,_,_,_,_,o,_,_,e,_];exact uA e
 |dT kvs=>erw[x,_,_,_,_,o,_,_,e,_];exact uA e
 |set S n=>erw[x,o,_,_,_,e,_];exact uA e
 |ins C dx fs=>erw[x,_,_,_,e,_];exact uA e
 |own y=>erw[x,_,e];exact uA e
 |xd fs=>erw[x,_,[_,_,_,e,_],_];exact uA e
 |rng lo hi=>erw[x,_,_,_,e];exact uA e
 |frz ob u=>erw[x,e,_];exact uA e
 |tbl ps=>exact uA (show h.get? a=u_ _ from x)
 |met f y=>exact uA (show h.get? a=u_ _ from x)
 |ext φ=>erw[x,_,[_,e],_];exact uA e
theorem Paired.mapP {α β:Type}{F G:α->β->Prop}:∀{l₁:oj α}{l₂:oj β},Paired F l₁ l₂->(∀a b,F a b->G a b)->Paired G l₁ l₂
 |_,_,.nil,_=> .nil
 |_,_,.cons r t,f=> .cons (f _ _ r) (Paired.mapP t f)
theorem yr.stay (x:yr P w H h a o)(k:∀b u,(b=a∨H b=u_ (.own a))->h.get? b=u_ u->h'.get? b=u_ u)
  (O:∀b,H b=u_ (.own a)->H' b=u_ (.own a)) (U:∀b xs,H b=u_ (.tup xs)->H' b=u_ (.tup xs)):yr P w H' h' a o:=by
 induction o with
 |lst xs=>erw[x,z,its,n,r,e];exact⟨z,its,n,r,k _ _ (.inl rfl) e⟩
 |tup xs=>erw[x,z,its,r,ob,e,c];exact⟨z,its,r,ob,k _ _ (.inl rfl) e,c⟩
 |dK kvs=>erw[x,z,y,vs,r,ob,es,ep,e,c];exact⟨z,y,vs,r,ob,es,ep,k _ _ (.inl rfl) e,c⟩
 |dT kvs=>
  erw[x,z,y,xs,r,ob,es,ep,e,c];exact⟨z,y,xs,Paired.mapP r λp q z=>[z.1:U _ _ z.2.1:z.2.2],ob,es,ep,k _ _ (.inl rfl) e,c⟩
 |set S n=>erw[x,ob,es,ep,t,e,c];exact⟨ob,es,ep,t,k _ _ (.inl rfl) e,c⟩
 |ins C dx fs=>
  erw[x,d,z,ne,e,mA,[od,es,ep,e2,c],r];exact⟨O _ d,z,ne,k _ _ (.inl rfl) e,mA,⟨od,es,ep,k _ _ (.inr d) e2,c⟩,r⟩
 |own y=>erw[x,ob,e];exact[ob:k _ _ (.inl rfl) e]
 |xd fs=>erw[x,mA,[od,es,ep,e,c],r];exact[mA:⟨od,es,ep,k _ _ (.inl rfl) e,c⟩:r]
 |rng lo hi=>erw[x,t,u,v,e];exact⟨t,u,v,k _ _ (.inl rfl) e⟩
 |frz ob u ih=>erw[x,e,q];exact[k _ _ (.inl rfl) e:ih q]
 |tbl ps=>
  have e:h.get? a=u_ {cls:= .none,data:= .fields ps}:=x;show h'.get? a=u_ {cls:= .none,data:= .fields ps};exact k a _ (.inl rfl) e
 |met f y=>
  have e:h.get? a=u_ (PySem.W.methodObj (.ref f) (.ref y)):=x;show h'.get? a=u_ (PySem.W.methodObj (.ref f) (.ref y));exact k a _ (.inl rfl) e
 |ext φ=>erw[x,p,[o,e],st];exact[st _ _ p λo q=>k _ _ (.inl rfl) q:[o:k _ _ (.inl rfl) e]:st]
theorem HOk.lt (x:HOk P w H h)(e:H a=u_ o):a<h.objs.size:=(x a o e).lt
theorem HOk.fresh (x:HOk P w H h)(e:h.objs.size<=a):H a=none:=by
 cases q:H a with
 |none=>rfl
 |some u=>exact absurd (Vm (x.lt q) e) (vK _)
theorem HOk.kept (x:HOk P w H h)(k:∀b u,h.get? b=u_ u->h'.get? b=u_ u):HOk P w H h':=λa o e=>
 (x a o e).stay (λb u _ q=>k b u q) (λ_ q=>q) λ_ _ q=>q
theorem HOk.laid (x:HOk P w H h)(k:∀b u,h.get? b=u_ u->h'.get? b=u_ u)(U:h.objs.size<=a)(new:yr P w (upd H a o) h' a o):HOk P w (upd H a o) h':=λb u e=>by
 have hn:=x.fresh U;by_cases O:b=a
 ·subst O;rw [qh] at e;cases e;exact new
 ·rw [qi O] at e;exact(x b u e).stay (λc v _ q=>k c v q) (λc q=>by rwa [qi (qk q hn)]) λc xs q=>by rw [qi (qk q hn)];exact q
end
noncomputable def Rd (H:Hp)(a:o3)(u:HO):Prop:=H a=u_ u∨∃o,H a=u_ (.frz o u)
theorem Rd.of {u:HO}(h:H a=u_ u):Rd H a u:= .inl h
variable {w:og}{h:o8}
theorem Rd.ok {P:o9}{u:HO}(r:Rd H a u)(x:HOk P w H h):yr P w H h a u:=by
 rcases r with r|⟨o,r⟩
 ·exact x a u r
 ·erw[x a _ r,_,q];exact q
noncomputable def Mut:om HO->Prop
 |some (.lst _)=>True
 |some (.dK _)=>True
 |some (.dT _)=>True
 |some (.set _ _)=>True
 |some (.ins _ _ _)=>True
 |some (.ext _)=>True
 |_=>False
section
variable {P:o9}{w:og}{H:Hp}{h h':o8}{x e:o3}{o':HO}
theorem HOk.write (ok:HOk P w H h)(mu:Mut (H x))(he:e=x∨H e=u_ (.own x))(k:∀b u,b≠e->h.get? b=u_ u->h'.get? b=u_ u)(ac:∃u,h'.get? e=u_ u)
  (new:yr P w (upd H x o') h' x o'):HOk P w (upd H x o') h':=λb u q=>by
 have U:∀c y,H c=u_ (.own y)->c≠x:=λc y r z=>by subst z;rwa [r] at mu
 have aa:∀c xs,H c=u_ (.tup xs)->c≠x:=λc xs r z=>by subst z;rwa [r] at mu
 by_cases hb:b=x
 ·subst hb;rw [qh] at q;cases q;exact new
 ·rw [qi hb] at q;by_cases O:b=e
  ·have q':H b=u_ (.own x):=by
    rcases he with z|z
    ·exact absurd (O.trans z) hb
    ·rwa [O]
   rw [q] at q';cases q';erw[ac,v,hv];exact⟨v,by rwa [O]⟩
  ·refine(ok b u q).stay (λc v hc r=>k c v ?_ r) (λc r=>by rwa [qi (U c b r)]) λc xs r=>by rwa [qi (aa c xs r)]
   rcases hc with rfl|hc
   ·exact O
   ·rintro rfl;rcases he with z|z
    ·exact U c b hc z
    ·rw [hc] at z;cases z;exact hb rfl
end
structure Un (fs ex:oj o3)(H H':Hp)(h h':o8):Prop where
 keep:∀b o,h.get? b=u_ o->H b=U_->b∉fs->b∉ex->h'.get? b=u_ o
 slot:∀b o,h.get? b=u_ o->H b=U_->b∈fs->b∉ex->∃sl,h'.get? b=u_ {o with slots:=sl}
 free:∀b o,h.get? b=u_ o->H b=U_->b∉ex->H' b=U_
 there:∀b o,h.get? b=u_ o->b∉ex->∃o',h'.get? b=u_ o'
 tups:∀b xs,H b=u_ (.tup xs)->H' b=u_ (.tup xs)
 frzs:∀b o u,H b=u_ (.frz o u)->H' b=u_ (.frz o u)
 tbls:∀b ps,H b=u_ (.tbl ps)->∃more,H' b=u_ (.tbl (ps++more))
section
variable {fs fs' ex ex':oj o3}{H H1 H2:Hp}{h h1 h2 h':o8}{a x e:o3}{o:HO}
theorem Un.any (u:Un fs ex H H1 h h1){ob:Obj}(q:h.get? b=u_ ob)(n:H b=U_)(O:b∉ex):∃sl,h1.get? b=u_ {ob with slots:=sl}:=by
 by_cases U:b∈fs
 ·exact u.slot b ob q n U O
 ·exact[ob.slots:u.keep b ob q n U O]
theorem Un.trans (a:Un fs ex H H1 h h1)(b:Un fs ex H1 H2 h1 h2):Un fs ex H H2 h h2 where
 keep:=λc ob q n hc O=>b.keep c ob (a.keep c ob q n hc O) (a.free c ob q n O) hc O
 slot:=λc ob q n hc O=>by
  erw[a.slot c ob q n hc O,sl,U];erw[b.slot c _ U (a.free c ob q n O) hc O,aa,e2];exact[aa:e2]
 free:=λc ob q n O=>by
  erw[a.there c ob q O,o',U];exact b.free c o' U (a.free c ob q n O) O
 there:=λc ob q O=>by
  erw[a.there c ob q O,o',U];exact b.there c o' U O
 tups:=λc xs q=>b.tups c xs (a.tups c xs q)
 frzs:=λc ob xs q=>b.frzs c ob xs (a.frzs c ob xs q)
 tbls:=λc ps q=>by
  erw[a.tbls c ps q,m1,U];erw[b.tbls c _ U,m2,e2];exact⟨m1++m2,by rw [e2,Ts]⟩
theorem Un.kept (k:∀b u,h.get? b=u_ u->h'.get? b=u_ u):Un fs ex H H h h':=
 ⟨λb ob q _ _ _=>k b ob q,λb ob q _ _ _=>[ob.slots:k b ob q],λ_ _ _ n _=>n,λb ob q _=>[ob:k b ob q],λ_ _ q=>q,λ_ _ _ q=>q,λ_ ps q=>⟨#[],by rw [q];simp⟩⟩
theorem Un.refl:Un fs ex H H h h:=Un.kept λ_ _ q=>q
theorem Un.laid (k:∀b u,h.get? b=u_ u->h'.get? b=u_ u)(O:h.objs.size<=a)(hn:H a=U_):Un fs ex H (upd H a o) h h' where
 keep:=λb u q _ _ _=>k b u q
 slot:=λb u q _ _ _=>[u.slots:k b u q]
 free:=λb u q n _=>by rwa [qi (uL (Vm (uA q) O))]
 there:=λb u q _=>[u:k b u q]
 tups:=λb xs q=>by rwa [qi (qk q hn)]
 frzs:=λb u xs q=>by rwa [qi (qk q hn)]
 tbls:=λb ps q=>⟨#[],by rw [qi (qk q hn),q];simp⟩
theorem Un.write (mu:Mut (H x))(he:e=x∨H e=u_ (.own x))(k:∀b u,b≠e->h.get? b=u_ u->h'.get? b=u_ u)(U:∃u,h'.get? e=u_ u):Un fs ex H (upd H x o) h h':=by
 have hx:∀b,H b=U_->b≠x:=λb n z=>by subst z;rwa [n] at mu
 have hb:∀b,H b=U_->b≠e:=λb n z=>by
  subst z;rcases he with r|r
  ·exact hx b n r
  ·rw [n] at r;cases r
 have hm:∀b u,H b=u_ u->¬Mut (u_ u)->b≠x:=λb u q nm z=>by subst z;rw [q] at mu;exact nm mu
 refine⟨λb u q n _ _=>k b u (hb b n) q,λb u q n _ _=>[u.slots:k b u (hb b n) q],λb u q n _=>by rwa [qi (hx b n)],λb u q _=> ?_,
  λb xs q=>by rwa [qi (hm b _ q λz=>z)],λb u xs q=>by rwa [qi (hm b _ q λz=>z)],λb ps q=>⟨#[],by rw [qi (hm b _ q λz=>z),q];simp⟩⟩
 by_cases O:b=e
 ·subst O;exact U
 ·exact[u:k b u O q]
end
noncomputable def trk (h:o8)(H:Hp):oj o3:=(Vi h.objs.size).filter λa=>(H a).isSome
noncomputable def hidT (h:o8)(H:Hp):o8:=PySem.W.hideAll h (trk h H)
theorem hidT_size (h:o8)(H:Hp):(hidT h H).objs.size=h.objs.size:=PySem.W.hideAll_size _ _
variable {o:Obj}
theorem hidT_get (e:h.get? b=u_ o)(n:H b=U_):(hidT h H).get? b=u_ o:=
 PySem.W.hideAll_get _ e λhm=>by
  have q:(H b).isSome=true:=(Ac.mp hm).2;rw [n] at q;simp at q
theorem of_hidT (e:(hidT h H).get? b=u_ o):h.get? b=u_ o/\H b=none:=by
 have O:h.get? b=u_ o:=PySem.W.of_hideAll (trk h H) e;exists O;cases q:H b with
 |none=>rfl
 |some x=>
  have hm:b∈trk h H:=Ac.mpr ⟨List.mem_range.mpr (uA O),by simp [q]⟩
  have z:(hidT h H).get? b=none:=PySem.W.hideAll_none (trk h H) hm;rw [z] at e;cases e
structure Mod (K:o0)(mg:Str->om o6)(base:o8):Prop where
 kin:K.In base
 glob:base.Ns Vv mg
 blt:∃mb,base.Ns tV mb/\∀x:Str,x≠"__name__"->mb x=gW x
 nolimit:base.NoLimit
structure Cx where
 prog:o9
 w:og
 K:o0
 mg:Str->om o6
 base:o8
 A:oh
 N:oj Str
 s₀:o7
 H₀:Hp
 env:Env
 outer:oj Env
 stack:oj Env
 ex:oj o3
 fn:Str->Bool
 calm:Bool
 pn:oj (o3×Obj)
 xe:o6->o7->Prop
noncomputable def frs (l:oj Env):oj o3:=l.filterMap (·.frame)
noncomputable abbrev Cx.fs (X:Cx):oj o3:=frs X.outer
noncomputable def Vis (sc:Vt)(x:Str):Prop:=sc.names.lookup x=u_ .local∨sc.names.lookup x=u_ .cell∨sc.names.lookup x=u_ .free
noncomputable def Loc (sc:Vt)(x:Str):Prop:=sc.names.lookup x=u_ .local∨sc.names.lookup x=u_ .cell
noncomputable def Look (env:Env)(h:o8)(m:Str->om o6)(x:Str)(u:o6):Prop:=
 (env.kindOf x=u_ .local/\m x=u_ u)∨((env.kindOf x=u_ .cell∨env.kindOf x=u_ .free)/\∃c,env.cells.lookup x=u_ c/\h.IsCell c (u_ u))
structure Cx.Ok (X:Cx):Prop where
 mod:Mod X.K X.mg X.base
 kind:X.env.scope.kind= .function
 glob:X.env.globals=Vv
 blt:X.env.builtins=tV
 above:X.s₀.heap.objs.size<=X.env.locals
 inj:∀x y c,X.env.cells.lookup x=u_ c->X.env.cells.lookup y=u_ c->x=y
 has:∀x,(X.env.kindOf x=u_ .cell∨X.env.kindOf x=u_ .free)->∃c,X.env.cells.lookup x=u_ c
 cab:∀x c,X.fn x=v_->X.env.cells.lookup x=u_ c->X.s₀.heap.objs.size<=c
 hd:X.calm=v_->X.A.handled=U_
 frames:X.A.frames=u_ X.stack
 stk:X.stack=X.outer∨(X.stack=X.env::X.outer/\X.env.frame=u_ X.env.locals)
 exf:∀b∈X.ex,b≠X.env.locals/\∀x c,X.env.cells.lookup x=u_ c->c≠b
 bs:∀b o,X.base.get? b=u_ o->X.s₀.heap.get? b=u_ o/\X.H₀ b=U_
 bsz:X.base.objs.size<=X.s₀.heap.objs.size
 noex:∀b o,X.base.get? b=u_ o->b∉X.ex
 exfs:∀b∈X.ex,b∉X.fs
 funs:X.s₀.heap.FunFrames X.base X.outer
 frf:∀b∈X.fs,X.H₀ b=U_
structure Inv (X:Cx)(oq:oj (o3×Obj))(σ:oj (om V))(H:Hp)(s:o7):Prop where
 ok:X.Ok
 os:s.os=X.s₀.os
 bare:VS s.gens
 base:Un X.fs X.ex X.H₀ H X.s₀.heap s.heap
 loc:∃m,s.heap.Ns X.env.locals m/\∀(i:Nat) (x:Str) (v:V),X.N[i]? =u_ x->σ[i]? =u_ (u_ v)->Vis X.env.scope x->∃u,RelV v u/\Look X.env s.heap m x u
 cell:∀x c,X.env.cells.lookup x=u_ c->∃v,s.heap.IsCell c v
 free:H X.env.locals=U_
 freeC:∀x c,X.env.cells.lookup x=u_ c->H c=U_
 pin:∀p∈X.pn++oq,s.heap.get? p.1=u_ p.2/\H p.1=U_/\p.1≠X.env.locals/\p.1∉X.fs/\∀v,p.2.data≠ .cell v
 hok:HOk X.prog X.w H s.heap
 len:σ.length=X.N.length
 tk:0<s.toks
section
variable {X:Cx}{oq:oj (o3×Obj)}{σ:oj (om V)}{H H':Hp}{s:o7}{h':o8}
theorem Cx.Ok.nofr (ok:X.Ok)(e:X.base.get? b=u_ o):b∉X.fs:=λO=>by
 have:=(ok.funs.mem O).1;rw [e] at this;cases this
theorem Inv.bs (I:Inv X oq σ H s):∀b o,X.base.get? b=u_ o->s.heap.get? b=u_ o/\H b=none:=λb o e=>
 [I.base.keep b o (I.ok.bs b o e).1 (I.ok.bs b o e).2 (I.ok.nofr e) (I.ok.noex b o e):I.base.free b o (I.ok.bs b o e).1 (I.ok.bs b o e).2 (I.ok.noex b o e)]
theorem Inv.bk (I:Inv X oq σ H s):∀b o,X.base.get? b=u_ o->s.heap.get? b=u_ o:=λb o e=>(I.bs b o e).1
theorem Inv.mod (I:Inv X oq σ H s):Mod X.K X.mg X.base:=I.ok.mod
theorem Inv.kIn (I:Inv X oq σ H s):X.K.In s.heap:=I.ok.mod.kin.keeps I.bk
theorem Inv.lt (I:Inv X oq σ H s):X.env.locals<s.heap.objs.size:=let⟨_,hn,_⟩:=I.loc;hn.lt
theorem Inv.sz (I:Inv X oq σ H s):X.s₀.heap.objs.size<=s.heap.objs.size:=uI I.ok.above (UY I.lt)
theorem Inv.nofs (I:Inv X oq σ H s)(h:s.heap.objs.size<=a):a∉X.fs:=λO=>by
 erw[I.ok.funs.mem O,_,o,U,_];exact absurd (Vm (uA U) (uI I.sz h)) (vK _)
theorem Inv.cne (I:Inv X oq σ H s):∀x c,X.env.cells.lookup x=u_ c->c≠X.env.locals:=λx c e z=>by
 erw[I.cell x c e,v,o,ho,hd];erw[I.loc,m,[o',es,ep,O,U,_],_];rw [z,O] at ho;cases ho;rw [U] at hd;cases hd
theorem Inv.funs (I:Inv X oq σ H s):s.heap.FunFrames X.base X.outer:=by
 have all:∀(l:oj Env),(∀b∈frs l,b∈X.fs)->X.s₀.heap.FunFrames X.base l->s.heap.FunFrames X.base l:=by
  intro l
  induction l with
  |nil=>intro _ _;trivial
  |cons env r ih=>
   intro hs hl;erw[hl,hk,[L,o,O,hn,ho,hd],hr];have U:L∈X.fs:=hs L (by unfold frs;rw [vh,O];exact uf)
   obtain⟨sl,e⟩:=I.base.slot L o ho (I.ok.frf L U) U λz=>I.ok.exfs L z U;exact⟨hk,⟨L,_,O,hn,e,hd⟩,ih (λb hb=>hs b (by unfold frs;rw [vh,O];exact ue _ hb)) hr⟩
 exact all X.outer (λ_ hb=>hb) I.ok.funs
theorem Inv.stack (I:Inv X oq σ H s):s.heap.FunFrames X.base X.stack:=by
 rcases I.ok.stk with e|⟨e,O⟩
 ·rw [e];exact I.funs
 ·rw [e];erw[I.loc,m,hn,_];refine .cons (by rw [I.ok.kind];decide) O hn ?_ I.funs
  exact Heap.get?_none_of_le (uI I.ok.bsz I.ok.above)
theorem Inv.stkSub (I:Inv X oq σ H s):∀b∈frs X.stack,b∈X.env.locals::X.fs:=λb O=>by
 rcases I.ok.stk with e|⟨e,U⟩
 ·rw [e] at O;exact ue _ O
 ·rw [e] at O;unfold frs at O;rwa [vh,U] at O
theorem Inv.stkFree (I:Inv X oq σ H s):∀b∈frs X.stack,H b=none:=λb O=>by
 rcases A8.mp (I.stkSub b O) with e|O
 ·rw [e];exact I.free
 ·erw[I.ok.funs.mem O,_,o,U,_];exact I.base.free b o U (I.ok.frf b O) λz=>I.ok.exfs b z O
theorem Inv.step {g':Array tL}{t':Nat}{d':Drawn}{ch:oj o3}(I:Inv X oq σ H s)
  (U:∀b∈ch,(b∈X.ex∨X.s₀.heap.objs.size<=b)/\b≠X.env.locals/\(∀x c,X.env.cells.lookup x=u_ c->c≠b)/\∀p∈X.pn++oq,p.1≠b)
  (keep:∀b o,b≠X.env.locals->b∉X.fs->b∉ch->s.heap.get? b=u_ o->H b=U_->h'.get? b=u_ o)
  (slot:∀b o,b≠X.env.locals->b∈X.fs->b∉ch->s.heap.get? b=u_ o->H b=U_->∃sl,h'.get? b=u_ {o with slots:=sl}) (free:∀b o,b∉ch->s.heap.get? b=u_ o->H b=U_->H' b=U_)
  (there:∀b o,b∉ch->s.heap.get? b=u_ o->∃o',h'.get? b=u_ o')
  (tups:∀b xs,H b=u_ (.tup xs)->H' b=u_ (.tup xs)) (frzs:∀b o u,H b=u_ (.frz o u)->H' b=u_ (.frz o u)) (tbls:∀b ps,H b=u_ (.tbl ps)->∃more,H' b=u_ (.tbl (ps++more)))
  (ns:∀m,s.heap.Ns X.env.locals m->h'.Ns X.env.locals m) (hok:HOk X.prog X.w H' h') (hg:VS g') (ht:0<t':=by ac_rfl):
  Inv X oq σ H' {s with heap:=h',gens:=g',drawn:=d',toks:=t'}:=by
 have ae:∀b o,X.s₀.heap.get? b=u_ o->b≠X.env.locals:=λb o e=>uL (Vm (uA e) I.ok.above);have ad:∀b o,X.s₀.heap.get? b=u_ o->b∉X.ex->b∉ch:=λb o e O hb=>by
  rcases(U b hb).1 with z|z
  ·exact O z
  ·exact absurd (Vm (uA e) z) (vK _)
 have aa:∀x c,X.env.cells.lookup x=u_ c->∀v,s.heap.IsCell c v->h'.IsCell c v:=λx c e v ⟨o,ho,hd⟩=>by
  have ac:c∉ch:=λz=>(U c z).2.2.1 x c e rfl;by_cases hc:c∈X.fs
  ·erw[slot c o (I.cne x c e) hc ac ho (I.freeC x c e),sl,q];exact[_:q:hd]
  ·exact[o:keep c o (I.cne x c e) hc ac ho (I.freeC x c e):hd]
 refine⟨I.ok,I.os,hg,⟨λb o e n hb O=> ?_,λb o e n hb O=> ?_,λb o e n O=> ?_,λb o e O=> ?_,λb xs e=>tups b xs (I.base.tups b xs e),λb o xs e=>frzs b o xs (I.base.frzs b o xs e),λb ps e=> ?_⟩,?_,λx c e=> ?_,?_,λx c e=> ?_,λp hp=> ?_,hok,I.len,ht⟩
 ·exact keep b o (ae b o e) hb (ad b o e O) (I.base.keep b o e n hb O) (I.base.free b o e n O)
 ·erw[I.base.slot b o e n hb O,sl,e1];erw[slot b _ (ae b o e) hb (ad b o e O) e1 (I.base.free b o e n O),af,e2];exact[af:e2]
 ·erw[I.base.there b o e O,o',e1];exact free b o' (ad b o e O) e1 (I.base.free b o e n O)
 ·erw[I.base.there b o e O,o',e1];exact there b o' (ad b o e O) e1
 ·erw[I.base.tbls b ps e,m1,e1];erw[tbls b _ e1,m2,e2];exact⟨m1++m2,by rw [e2,Ts]⟩
 ·erw[I.loc,m,hn,hl];refine[m:ns m hn:λi x v e1 e2 e3=> ?_];erw[hl i x v e1 e2 e3,u,r,l];exists u,r;rcases l with l|⟨k,c,e,z⟩
  ·exact .inl l
  ·exact .inr ⟨k,c,e,aa x c e _ z⟩
 ·erw[I.cell x c e,v,z];exact[v:aa x c e v z]
 ·erw[I.loc,m,[o,_,_,ho,_],_];exact free _ o (λz=>(U _ z).2.1 rfl) ho I.free
 ·erw[I.cell x c e,v,o,ho,hd];exact free c o (λz=>(U c z).2.2.1 x c e rfl) ho (I.freeC x c e)
 ·erw[I.pin p hp,e,n,ne,nf,d];have ac:p.1∉ch:=λz=>(U p.1 z).2.2.2 p hp rfl;exact⟨keep p.1 p.2 ne nf ac e n,free p.1 p.2 ac e n,ne,nf,d⟩
variable {t':Nat}
theorem Inv.un (I:Inv X oq σ H s)(u:Un X.fs [] H H' s.heap h')(hok:HOk X.prog X.w H' h')(ht:0<t':=by ac_rfl):Inv X oq σ H' {s with heap:=h',toks:=t'}:=by
 erw[id I.loc,m,[o,es,ep,ho,r],_];obtain⟨sl,hL⟩:=u.any ho I.free (by simp)
 exact I.step (g':=s.gens) (d':=s.drawn) (ch:= []) (λ_ z=>nomatch z) (λb o _ U _ e n=>u.keep b o e n U (by simp)) (λb o _ U _ e n=>u.slot b o e n U (by simp)) (λb o _ e n=>u.free b o e n (by simp)) (λb o _ e=>u.there b o e (by simp)) u.tups u.frzs u.tbls (λm' hm=>by
  erw[hm,o',aa,ac,O,r'];rw [ho] at O;cases O;exact⟨_,aa,ac,hL,r'⟩) hok I.bare
theorem Inv.call {g':Array tL}{t':Nat}{d':Drawn}{ch:oj o3}(I:Inv X oq σ H s)(u:Un (frs X.stack) ch H H' s.heap h')(hok:HOk X.prog X.w H' h')(hg:VS g')
  (U:∀b∈ch,(b∈X.ex∨X.s₀.heap.objs.size<=b)/\b≠X.env.locals/\(∀x c,X.env.cells.lookup x=u_ c->c≠b)/\∀p∈X.pn++oq,p.1≠b) (ht:0<t':=by ac_rfl):
  Inv X oq σ H' {s with heap:=h',gens:=g',drawn:=d',toks:=t'}:=by
 erw[id I.loc,m,[o,es,ep,ho,r],_];obtain⟨sl,hL⟩:=u.any ho I.free λz=>(U _ z).2.1 rfl;exact I.step (ch:=ch) U (λb o hL hb O e n=>u.keep b o e n (λz=>(A8.mp (I.stkSub b z)).elim hL hb) O) (λb o _ _ O e n=>u.any e n O) (λb o O e n=>u.free b o e n O) (λb o O e=>u.there b o e O) u.tups u.frzs u.tbls (λm' hm=>by
  erw[hm,o',ac,ad,aa,r'];rw [ho] at aa;cases aa;exact⟨_,ac,ad,hL,r'⟩) hok hg
theorem Inv.turned {t':Nat}{it:o3}(I:Inv X oq σ H s)(k:∀b o,b≠it->s.heap.get? b=u_ o->h'.get? b=u_ o)(hn:H it=U_)(hL:it≠X.env.locals)
  (h1:it∈X.ex∨X.s₀.heap.objs.size<=it) (h2:∀x c,X.env.cells.lookup x=u_ c->c≠it) (h3:∀p∈X.pn++oq,p.1≠it) (ht:0<t':=by ac_rfl):Inv X oq σ H {s with heap:=h',toks:=t'}:=by
 have U:∀b u,H b=u_ u->b≠it:=λb u e z=>by rw [z,hn] at e;cases e
 refine I.step (g':=s.gens) (d':=s.drawn) (ch:= [it]) (λb hb=> ?_) (λb o _ _ O e _=>k b o (λz=>O (by simp [z])) e) (λb o _ _ O e _=>⟨o.slots,k b o (λz=>O (by simp [z])) e⟩) (λ_ _ _ _ n=>n)
  (λb o O e=>⟨o,k b o (λz=>O (by simp [z])) e⟩) (λ_ _ e=>e) (λ_ _ _ e=>e) (λb ps e=>⟨#[],by rw [e];simp⟩) (λm hm=> ?_) (λb u e=> ?_) I.bare
 ·have e:b=it:=by simpa using hb
  subst e;exact⟨h1,hL,h2,h3⟩
 ·erw[hm,o,es,ep,ho,r];exact⟨o,es,ep,k _ o (Uv hL) ho,r⟩
 ·refine(I.hok b u e).stay (λc v O q=>k c v ?_ q) (λ_ q=>q) λ_ _ q=>q;rcases O with z|z
  ·rw [z];exact U b u e
  ·exact U c _ z
theorem Inv.tok (I:Inv X oq σ H s)(t:Nat)(O:0<t:=by ac_rfl):Inv X oq σ H {s with toks:=t}:=I.un (h':=s.heap) (t':=t) Un.refl I.hok
theorem Inv.kept (I:Inv X oq σ H s)(k:∀b u,s.heap.get? b=u_ u->h'.get? b=u_ u)(O:0<t':=by ac_rfl):Inv X oq σ H {s with heap:=h',toks:=t'}:=I.un (Un.kept k) (I.hok.kept k)
theorem Inv.laid {o:HO}(I:Inv X oq σ H s)(k:∀b u,s.heap.get? b=u_ u->h'.get? b=u_ u)(O:s.heap.objs.size<=a)(new:yr X.prog X.w (upd H a o) h' a o)(U:0<t':=by ac_rfl):
  Inv X oq σ (upd H a o) {s with heap:=h',toks:=t'}:=I.un (Un.laid k O (I.hok.fresh O)) (I.hok.laid k O new)
theorem Inv.write {x e:o3}{o:HO}{t':Nat}(I:Inv X oq σ H s)(mu:Mut (H x))(U:e=x∨H e=u_ (.own x))(k:∀b u,b≠e->s.heap.get? b=u_ u->h'.get? b=u_ u)(O:∃u,h'.get? e=u_ u)
  (new:yr X.prog X.w (upd H x o) h' x o) (ht:0<t':=by ac_rfl):Inv X oq σ (upd H x o) {s with heap:=h',toks:=t'}:=I.un (Un.write mu U k O) (I.hok.write mu U k O new)
theorem Inv.pins_of {O:oj (o3×Obj)}(I:Inv X oq σ H s)(h:∀p∈O,s.heap.get? p.1=u_ p.2/\H p.1=U_/\p.1≠X.env.locals/\p.1∉X.fs/\∀v,p.2.data≠ .cell v):Inv X O σ H s:=
 ⟨I.ok,I.os,I.bare,I.base,I.loc,I.cell,I.free,I.freeC,λp U=>(Aa.mp U).elim (λz=>I.pin p (ve _ z)) (h p),I.hok,I.len,I.tk⟩
variable {j:Nat}{x:Str}
theorem nodup_ix {N:oj Str}(O:N.Nodup){i:Nat}(a:N[i]? =u_ x)(b:N[j]? =u_ x):i=j:=by
 erw[Ae.mp a,h1,U];erw[Ae.mp b,h2,e2];exact(List.getElem_inj O).mp (U.trans e2.symm)
theorem store_ok2 {M:Gq}{A:oh}{E:o6->o7->Prop}{i:Nat}{x:Str}{v:V}{u:o6}{Q:Unit->o7->Prop}(I:Inv X oq σ H s)(hN:X.N.Nodup)(hi:X.N[i]? =u_ x)(hx:Loc X.env.scope x)(r:RelV v u)
  (h:∀s',Inv X oq (σ.set i (u_ v)) H s'->(∃a,GN a s.heap s'.heap/\(a=X.env.locals∨X.env.cells.lookup x=u_ a))->Q GH s') (hf:X.fn x=v_∨X.env.scope.names.lookup x=u_ .local:=by first|exact .inl rfl|exact .inr rfl|assumption):V8 M A (Hl X.env x u) Q E s:=by
 erw[id I.loc,m,hn,hl];have ad:(X.env.scope.kind== .class||(X.env.scope.kind== .module&&X.env.locals !=X.env.globals))=false:=by rw [I.ok.kind];rfl
 have ae:i<σ.length:=by rw [I.len];exact(Ae.mp hi).1
 have cne:=I.cne;have U:∀{a:o3}{h':o8},(∃o,s.heap.get? a=u_ o/\H a=U_)->GN a s.heap h'->HOk X.prog X.w H h':=λ{a h'} ha O b ob e=>by
  erw[ha,_,_,aa];refine(I.hok b ob e).stay (λc w' hc q=>(O.2 c ?_).trans q) (λ_ q=>q) λ_ _ q=>q;rintro rfl;rcases hc with rfl|hc
  ·rw [aa] at e;cases e
  ·rw [aa] at hc;cases hc
 rcases hx with hk|hk
 ·refine Fe hk hn (λh' al O=> ?_) ad;erw[id hn,oL,_,_,am,_];refine h _ ⟨I.ok,I.os,I.bare,⟨λb o e n hb hx=> ?_,λb o e n hb hx=> ?_,I.base.free,λb o e hx=> ?_,I.base.tups,I.base.frzs,I.base.tbls⟩,[_:al:λj y v' e1 e2 e3=> ?_],λy c e=> ?_,I.free,I.freeC,λp hp=> ?_,U [oL:am:I.free] O,by simpa using I.len,by first|exact I.tk|exact HK _⟩ [_:O:.inl rfl]
  ·exact(O.2 b (uL (Vm (uA e) I.ok.above))).trans (I.base.keep b o e n hb hx)
  ·erw[I.base.slot b o e n hb hx,sl,e1];exact[sl:(O.2 b (uL (Vm (uA e) I.ok.above))).trans e1]
  ·erw[I.base.there b o e hx,o',e1];exact[o':(O.2 b (uL (Vm (uA e) I.ok.above))).trans e1]
  ·by_cases hj:j=i
   ·subst hj;rw [hi] at e1;cases e1;rw [f_ ae] at e2;cases e2;exact⟨u,r,.inl ⟨hk,by simp⟩⟩
   ·rw [R9 (Uv hj)] at e2;erw[hl j y v' e1 e2 e3,u',r',q];exists u',r';rcases q with⟨k,e⟩|⟨k,c,e,z⟩
    ·refine .inl [k:?_];have:y≠x:=λe=>hj (nodup_ix hN e1 (e▸hi));simp [this,e]
    ·exact .inr ⟨k,c,e,z.sameBut O (cne y c e)⟩
  ·erw[I.cell y c e,w',z];exact[w':z.sameBut O (cne y c e)]
  ·erw[I.pin p hp,e,n,ne,nf,d];exact⟨(O.2 p.1 ne).trans e,n,ne,nf,d⟩
 ·have ac:X.fn x=true:=by
   rcases hf with z|z
   ·exact z
   ·rw [z] at hk;cases hk
  erw[I.ok.has x (.inl hk),c,hc];erw[I.cell x c hc,w',z];refine wpAny_storeName_cell I.ok.kind hk hc z (λh' af O=> ?_);erw[id z,oc,ag,ah];refine h {s with heap:=h'} ⟨I.ok,I.os,I.bare,⟨λb o e n hb hx=> ?_,λb o e n hb hx=> ?_,I.base.free,λb o e hx=> ?_,I.base.tups,I.base.frzs,I.base.tbls⟩,[m:hn.sameBut O (Uv (cne x c hc)):λj y v' e1 e2 e3=> ?_],λy c' e=> ?_,I.free,I.freeC,λp hp=> ?_,U [oc:ag:I.freeC x c hc] O,by simpa using I.len,by first|exact I.tk|exact HK _⟩ [c:O:.inr hc]
  ·exact(O.2 b (uL (Vm (uA e) (I.ok.cab x c ac hc)))).trans (I.base.keep b o e n hb hx)
  ·erw[I.base.slot b o e n hb hx,sl,e1];exact[sl:(O.2 b (uL (Vm (uA e) (I.ok.cab x c ac hc)))).trans e1]
  ·erw[I.base.there b o e hx,o',e1];exact[o':(O.2 b (uL (Vm (uA e) (I.ok.cab x c ac hc)))).trans e1]
  ·by_cases hj:j=i
   ·subst hj;rw [hi] at e1;cases e1;rw [f_ ae] at e2;cases e2;exact[u:r:.inr ⟨.inl hk,c,hc,af⟩]
   ·rw [R9 (Uv hj)] at e2;erw[hl j y v' e1 e2 e3,u',r',q];exists u',r';rcases q with q|⟨k,c',e,z'⟩
    ·exact .inl q
    ·refine .inr ⟨k,c',e,z'.sameBut O ?_⟩;rintro rfl;exact hj (nodup_ix hN e1 (I.ok.inj _ _ _ e hc▸hi))
  ·by_cases ak:c'=c
   ·subst ak;exact[_:af]
   ·erw[I.cell y c' e,w2,z2];exact[w2:z2.sameBut O ak]
  ·erw[I.pin p hp,e,n,ne,nf,d];refine⟨(O.2 p.1 ?_).trans e,n,ne,nf,d⟩;intro q;rw [q,ag] at e;have q':oc=p.2:=uF e;exact d w' (by rwa [<-q'])
theorem kD {M:Gq}{A:oh}{E:o6->o7->Prop}{i:Nat}{x:Str}{v:V}{u:o6}{Q:Unit->o7->Prop}(I:Inv X oq σ H s)(O:X.N.Nodup)(hi:X.N[i]? =u_ x)(U:Loc X.env.scope x)(r:RelV v u)
  (h:∀s',Inv X oq (σ.set i (u_ v)) H s'->Q GH s') (hf:X.fn x=v_∨X.env.scope.names.lookup x=u_ .local:=by first|exact .inl rfl|exact .inr rfl|assumption):V8 M A (Hl X.env x u) Q E s:=
 store_ok2 I O hi U r (λs' I' _=>h s' I') hf
theorem Inv.call' {s':o7}{ch:oj o3}(I:Inv X oq σ H s)(U:s'.os=s.os)(u:Un (frs X.stack) ch H H' s.heap s'.heap)(hok:HOk X.prog X.w H' s'.heap)(hg:VS s'.gens)
  (O:∀b∈ch,(b∈X.ex∨X.s₀.heap.objs.size<=b)/\b≠X.env.locals/\(∀x c,X.env.cells.lookup x=u_ c->c≠b)/\∀p∈X.pn++oq,p.1≠b) (ht:0<s'.toks:=by ac_rfl):Inv X oq σ H' s':=by
 erw[s',h',g',d',t',o'];have e:o'=s.os:=U;subst e;exact I.call (g':=g') (t':=t') (d':=d') u hok hg O
end
noncomputable abbrev XK:=o6->om o3->Hp->Prop
noncomputable abbrev St:=oj (om V)
noncomputable abbrev VK:=V->Hp->Prop
noncomputable abbrev TE:=St->Hp->VK->Prop
noncomputable abbrev TT:=St->Hp->(Bool->Hp->Prop)->Prop
noncomputable abbrev TA:=St->Hp->(oj V->Hp->Prop)->Prop
structure Ends where
 nx:St->Hp->Prop
 rt:VK
 bk:St->Hp->Prop:=λ_ _=>False
 ct:St->Hp->Prop:=λ_ _=>False
noncomputable abbrev TS:=Ends->St->Hp->Prop
noncomputable def EP (X:Cx)(oq:oj (o3×Obj))(σ:St)(Q:VK)(u:o6)(s':o7):Prop:=∃v H',Inv X oq σ H' s'/\RelV v u/\Q v H'
noncomputable def TP (X:Cx)(oq:oj (o3×Obj))(σ:St)(Q:Bool->Hp->Prop)(b:Bool)(s':o7):Prop:=∃H',Inv X oq σ H' s'/\Q b H'
noncomputable def AP (X:Cx)(oq:oj (o3×Obj))(σ:St)(Q:oj V->Hp->Prop)(us:oj o6)(s':o7):Prop:=∃vs H',Inv X oq σ H' s'/\Vals vs us/\Q vs H'
noncomputable def SP (X:Cx)(oq:oj (o3×Obj))(D:Ends)(f:Flow)(s':o7):Prop:=
 match f with
 | .next=>∃σ' H',Inv X oq σ' H' s'/\D.nx σ' H'
 | .brk=>∃σ' H',Inv X oq σ' H' s'/\D.bk σ' H'
 | .cont=>∃σ' H',Inv X oq σ' H' s'/\D.ct σ' H'
 | .ret u=>∃v σ' H',Inv X oq σ' H' s'/\RelV v u/\D.rt v H'
noncomputable def PE (X:Cx)(e:Expr)(t:TE):Prop:=
 ∀(oq:oj (o3×Obj)) (s:o7) (σ:St) (H:Hp) (Q:VK),Inv X oq σ H s->t σ H Q->V8 #[X,X] X.A (eval e X.env) (EP X oq σ Q) X.xe s
noncomputable def PT (X:Cx)(e:Expr)(t:TT):Prop:=
 ∀(oq:oj (o3×Obj)) (s:o7) (σ:St) (H:Hp) (Q:Bool->Hp->Prop),Inv X oq σ H s->t σ H Q->V8 #[X,X] X.A (isTrue e X.env (eval e X.env)) (TP X oq σ Q) X.xe s
noncomputable def PW (X:Cx)(e:Expr)(t:TT):Prop:=
 ∀(whole:Sem o6) (oq:oj (o3×Obj)) (s:o7) (σ:St) (H:Hp) (Q:Bool->Hp->Prop),Inv X oq σ H s->t σ H Q->V8 #[X,X] X.A (isTrue e X.env whole) (TP X oq σ Q) X.xe s
variable {X:Cx}
theorem PW.pt {e:Expr}{t:TT}(h:PW X e t):PT X e t:=h _
noncomputable def PA (X:Cx)(es:oj Expr)(t:TA):Prop:=
 ∀(pos:Pos) (oq:oj (o3×Obj)) (s:o7) (σ:St) (H:Hp) (Q:oj V->Hp->Prop),Inv X oq σ H s->t σ H Q->V8 #[X,X] X.A (h_ (Vk pos (Vd es X.env))) (AP X oq σ Q) X.xe s
noncomputable def PS (X:Cx)(st:Stmt)(t:TS):Prop:=
 ∀(oq:oj (o3×Obj)) (s:o7) (σ:St) (H:Hp) (D:Ends),Inv X oq σ H s->t D σ H->V8 #[X,X] X.A (exec st X.env) (SP X oq D) X.xe s
noncomputable def PSs (X:Cx)(st:oj Stmt)(t:TS):Prop:=
 ∀(oq:oj (o3×Obj)) (s:o7) (σ:St) (H:Hp) (D:Ends),Inv X oq σ H s->t D σ H->V8 #[X,X] X.A (execs st X.env) (SP X oq D) X.xe s
variable {A:oh}{s:o7}
theorem thn {α:Type}{t:Sem α}{Q O:α->o7->Prop}{M:Gq}{E:o6->o7->Prop}(h:V8 M A t Q E s)(U:∀a s,Q a s->O a s):V8 M A t O E s:=vN h U λ_ _ x=>x
section
variable {X:Cx}
inductive tVar (i:Nat) (σ:St) (H:Hp) (Q:VK):Prop
 |mk (v:_) (_:σ[i]? =u_ (u_ v)) (_:Q v H)
noncomputable def tC (v:V):TE:=λ_ H Q=>Q v H
variable {x:Str}
theorem pe_var {i:Nat}{pos:Pos}(hN:X.N[i]? =u_ x)(hv:Vis X.env.scope x)(hd:(x==("__debug__":Str))=false:=by decide)(aa:(x==("__classdict__":Str))=false:=by decide):PE X (.Name x pos) (tVar i):=by
 intro oq s σ H Q I h;erw[h,v,e,h];erw[I.loc,m,hn,hl];erw[hl i x v hN e hv,u,r,l];have fin:EP X oq σ Q u s:=⟨v,H,I,r,h⟩;rcases l with⟨U,hm⟩|⟨U,c,hc,O⟩
 ·exact tu (RB I.ok.kind U hn hm fin) hd
 ·rcases U with U|U
  ·exact tu (rS I.ok.kind U hc O fin) hd
  ·exact tu (wpAny_loadName_free I.ok.kind U hc O fin aa) hd
theorem ql {i j pos}:PE X (.Constant (.int i) j pos) (tC (.int i)):=λ_ _ _ H _ I h=>wpAny_Constant_int ⟨.int i,H,I.tok _,⟨0⟩,h⟩
theorem Ja {b j pos}:PE X (.Constant (.bool b) j pos) (tC (.bl b)):=λ_ _ _ H _ I h=>Constant_bool ⟨.bl b,H,I,1,h⟩
theorem qX {j pos}:PE X (.Constant .none j pos) (tC .non):=λ_ _ _ H _ I h=>Constant_none ⟨.non,H,I,1,h⟩
theorem qm {x j pos}:PE X (.Constant (.str x) j pos) (tC (.str x)):=λ_ _ _ H _ I h=>Calls.Constant_str ⟨.str x,H,I.tok _,⟨0⟩,h⟩
noncomputable def Gl (X:Cx)(x:Str):Prop:=X.env.kindOf x=u_ .globalImplicit
theorem KK {E:o6->o7->Prop}{oq:oj (o3×Obj)}{s:o7}{σ:St}{H:Hp}{x:Str}{u:o6}{pos:Pos}{Q:o6->o7->Prop}(I:Inv X oq σ H s)(O:Gl X x)(hm:X.mg x=u_ u)(h:Q u s)
  (hd:(x==("__debug__":Str))=false:=by decide):V8 #[X,X] X.A (eval (.Name x pos) X.env) Q E s:=
 FX I.ok.kind O (Calls.loadGlobal_global (by rw [I.ok.glob];exact I.mod.glob.keeps I.bk) hm h) hd
theorem XO {E:o6->o7->Prop}{oq:oj (o3×Obj)}{s:o7}{σ:St}{H:Hp}{x:Str}{u:o6}{pos:Pos}{Q:o6->o7->Prop}(I:Inv X oq σ H s)(O:Gl X x)(hm:X.mg x=U_)(U:gW x=u_ u)(h:Q u s)
  (hn:x≠"__name__":=by decide) (hd:(x==("__debug__":Str))=false:=by decide):V8 #[X,X] X.A (eval (.Name x pos) X.env) Q E s:=by
 erw[I.mod.blt,mb,h1,h2];exact FX I.ok.kind O (Calls.loadGlobal_builtin (by rw [I.ok.glob];exact I.mod.glob.keeps I.bk) hm (by rw [I.ok.blt];exact h1.keeps I.bk) ((h2 x hn).trans U) h) hd
variable {v:V}{u:o6}
theorem pe_glob {pos:Pos}(O:Gl X x)(hm:X.mg x=u_ u)(r:RelV v u)(hd:(x==("__debug__":Str))=false:=by decide):PE X (.Name x pos) (tC v):=
 λ_ _ _ H _ I h=>KK I O hm ⟨v,H,I,r,h⟩ hd
theorem Q3 {x:Str}{v:V}{u:o6}{pos:Pos}(O:Gl X x)(hm:X.mg x=U_)(U:gW x=u_ u)(r:RelV v u)(hn:x≠"__name__")(hd:(x==("__debug__":Str))=V7):PE X (.Name x pos) (tC v):=
 λ_ _ _ H _ I h=>XO I O hm U ⟨v,H,I,r,h⟩ hn hd
variable {a b:Expr}{ta tb:TE}{pos:Pos}
noncomputable def PC (X:Cx)(op:Gn)(a b:Expr)(t:TE):Prop:=
 ∀(oq:oj (o3×Obj)) (s:o7) (σ:St) (H:Hp) (Q:VK),Inv X oq σ H s->t σ H Q->
  V8 #[X,X] X.A (eval a X.env) (λv s₁=>V8 #[X,X] X.A (eval b X.env) (λu s₂=>V8 #[X,X] X.A (Vl op v u) (EP X oq σ Q) X.xe s₂) X.xe s₁) X.xe s
inductive ItB (Q:(Bool->Hp->Prop)) (x:V) (H1:Hp):Prop
 |mk (c:_) (_:x= .bl c) (_:Q c H1)
noncomputable def tB (t:TE):TT:=λσ H Q=>t σ H λx H1=>ItB Q x H1
theorem pe_cmp {O:Gn}{t:TE}(h:PC X O a b t)(h1:Gy O b=V7):PE X (.Compare a [O] [b] pos) t:=λoq s σ H Q I U=>rW (h oq s σ H Q I U) h1
theorem Jz {O:Gn}{t:TE}(h:PC X O a b t)(h1:Gy O b=V7):PT X (.Compare a [O] [b] pos) (tB t):=by
 intro oq s σ H Q I U;refine Fm (thn (h oq s σ H _ I U) λv s1 h1=>thn h1 λu s2 h2=>thn h2 λc s3 zq=> ?_) h1;erw[zq,x,H1,I1,r1,q1];erw[q1,d,rfl,q];cases r1;exact vB [H1:I1:q]
theorem Qj {e:Expr}{t:TE}(h:PE X e t)(U:∀O,isTrue e X.env O=(do let v<-O;GT e.pos;gV [v] (truthy v))):PT X e (tB t):=by
 intro oq s σ H Q I hw;refine Fn (thn (h oq s σ H _ I hw) λv s1 zq=> ?_) (U _);erw[zq,x,H1,I1,r1,q1];erw[q1,d,rfl,q];cases r1;exact vB [H1:I1:q]
variable {tA tB':TT}{rest:oj Expr}
noncomputable def tAnd (t u:TT):TT:=λσ H Q=>t σ H λc H1=>if c=v_ then u σ H1 Q else Q V7 H1
noncomputable def tOr (t u:TT):TT:=λσ H Q=>t σ H λc H1=>if c=v_ then Q v_ H1 else u σ H1 Q
noncomputable def tNot (t:TT):TT:=λσ H Q=>t σ H λc H1=>Q (!c) H1
theorem zA (ha:PT X a tA):PW X (.BoolOp .And [a] pos) tA:=by
 intro O oq s σ H Q I h;refine isTrue_and (thn (ha oq s σ H Q I h) λc s1 e=> ?_);cases c with
 |true=>exact isTrue_and_nil e
 |false=>exact e
theorem Jo (ha:PT X a tA):PW X (.BoolOp .Or [a] pos) tA:=by
 intro O oq s σ H Q I h;refine isTrue_or (thn (ha oq s σ H Q I h) λc s1 e=> ?_);cases c with
 |false=>exact isTrue_or_nil e
 |true=>exact e
theorem wy (ha:PT X a tA)(U:PW X (.BoolOp .And (b::rest) pos) tB'):PW X (.BoolOp .And (a::b::rest) pos) (tAnd tA tB'):=by
 intro wh oq s σ H Q I h;refine isTrue_and (thn (ha oq s σ H _ I h) λc s1 zq=> ?_);erw[zq,H1,O,q1];cases c with
 |true=>exact U wh oq s1 σ H1 Q O q1
 |false=>exact[H1:O:q1]
theorem zy (ha:PT X a tA)(U:PW X (.BoolOp .Or (b::rest) pos) tB'):PW X (.BoolOp .Or (a::b::rest) pos) (tOr tA tB'):=by
 intro wh oq s σ H Q I h;refine isTrue_or (thn (ha oq s σ H _ I h) λc s1 zq=> ?_);erw[zq,H1,O,q1];cases c with
 |true=>exact[H1:O:q1]
 |false=>exact U wh oq s1 σ H1 Q O q1
theorem Qy (ha:PT X a tA):PT X (.UnaryOp .Not a pos) (tNot tA):=by
 intro oq s σ H Q I h;exact isTrue_not (ha oq s σ H (λc H1=>Q (!c) H1) I h)
inductive ItAndV (tb:TE) (σ:St) (Q:VK) (x:V) (H1:Hp):Prop
 |mk (c:_) (_:x= .bl c) (_:if c=v_ then tb σ H1 Q else Q (.bl V7) H1)
noncomputable def tAndV (ta tb:TE):TE:=λσ H Q=>ta σ H λx H1=>ItAndV tb σ Q x H1
inductive ItOrV (tb:TE) (σ:St) (Q:VK) (x:V) (H1:Hp):Prop
 |mk (c:_) (_:x= .bl c) (_:if c=v_ then Q (.bl v_) H1 else tb σ H1 Q)
noncomputable def tOrV (ta tb:TE):TE:=λσ H Q=>ta σ H λx H1=>ItOrV tb σ Q x H1
theorem pe_one {op}{t:TE}(h:PE X a t):PE X (.BoolOp op [a] pos) t:=λoq s σ H Q I O=>BoolOp_one (h oq s σ H Q I O)
theorem pe_and (ha:PE X a ta)(U:PE X (.BoolOp .And (b::rest) pos) tb):PE X (.BoolOp .And (a::b::rest) pos) (tAndV ta tb):=by
 intro oq s σ H Q I h;refine BoolOp_and (thn (ha oq s σ H _ I h) λv s1 zq=> ?_);erw[zq,x,H1,O,r1,q1];erw[q1,c,rfl,q1];cases r1;refine vB ?_;cases c with
 |true=>exact U oq s1 σ H1 Q O q1
 |false=>exact⟨.bl V7,H1,O,1,q1⟩
theorem pe_or (ha:PE X a ta)(U:PE X (.BoolOp .Or (b::rest) pos) tb):PE X (.BoolOp .Or (a::b::rest) pos) (tOrV ta tb):=by
 intro oq s σ H Q I h;refine BoolOp_or (thn (ha oq s σ H _ I h) λv s1 zq=> ?_);erw[zq,x,H1,O,r1,q1];erw[q1,c,rfl,q1];cases r1;refine vB ?_;cases c with
 |false=>exact U oq s1 σ H1 Q O q1
 |true=>exact⟨.bl v_,H1,O,1,q1⟩
noncomputable def tIf (t:TT)(ta tb:TE):TE:=λσ H Q=>t σ H λc H1=>if c=v_ then ta σ H1 Q else tb σ H1 Q
theorem ye {c:Expr}(U:PT X c tA)(ha:PE X a ta)(hb:PE X b tb):PE X (.IfExp c a b pos) (tIf tA ta tb):=by
 intro oq s σ H Q I h;refine wpAny_IfExp (thn (U oq s σ H _ I h) λd s1 zq=> ?_);erw[zq,H1,O,q1];cases d with
 |true=>exact ha oq s1 σ H1 Q O q1
 |false=>exact hb oq s1 σ H1 Q O q1
end
noncomputable def SqL (K:o0)(H:Hp)(a:o3)(xs:oj V):Prop:=
 Rd H a (.lst xs)∨
  ∃(o:Obj) (its:Array o6) (n:Nat),K.lookup a=u_ o/\o.cls= .type "list"/\o.dict=U_/\o.data= .seq its n/\its.size<=Vb/\Vals xs its.toList
noncomputable def SqT (K:o0)(H:Hp)(a:o3)(xs:oj V):Prop:=
 Rd H a (.tup xs)∨
  ∃(o:Obj) (its:Array o6) (n:Nat),K.lookup a=u_ o/\o.cls= .type "tuple"/\o.data= .seq its n/\its.size<=Vb/\Vals xs its.toList
noncomputable def absV:o6->om V
 | .none=>u_ .non
 | .bool b=>u_ (.bl b)
 | .int i _=>u_ (.int i)
 | .str x _=>u_ (.str x)
 | .bytes b _=>u_ (.byt b)
 | .float b _=>u_ (.flt b)
 | .ref a=>u_ (.ref a)
 | .type n=>u_ (.ty n)
 |_=>U_
variable {u:o6}
theorem RelV.abs {x:V}(r:RelV x u):absV u=u_ x:=by
 cases x with
 |non=>cases r;rfl
 |bl _=>cases r;rfl
 |int _=>erw[r,t,rfl];rfl
 |str _=>erw[r,t,rfl];rfl
 |byt _=>erw[r,t,rfl];rfl
 |flt _=>erw[r,t,rfl];rfl
 |ref _=>cases r;rfl
 |ty _=>cases r;rfl
variable {y:V}
theorem RelV.inj {x:V}(r:RelV x u)(q:RelV y u):x=y:=uF (r.abs.symm.trans q.abs)
theorem Vals.inj:∀{xs ys:oj V}{us:oj o6},Vals xs us->Vals ys us->xs=ys
 |_,_,_,.nil,.nil=>rfl
 |_,_,_,.cons r t,.cons r' t'=>by rw [r.inj r',Vals.inj t t']
section
variable {X:Cx}{oq:oj (o3×Obj)}{σ:St}{H:Hp}{s:o7}{a:o3}{xs ys:oj V}
variable {K:o0}
theorem SqL.of (h:H a=u_ (.lst xs)):SqL K H a xs:= .inl (.inl h)
theorem SqT.of (h:H a=u_ (.tup xs)):SqT K H a xs:= .inl (.inl h)
theorem Inv.list (I:Inv X oq σ H s)(h:SqL X.K H a xs):∃its:oj o6,Vals xs its/\PlainL s.heap a its.toArray/\xs.length<=sizeLine:=by
 rcases h with h|⟨o,its,n,O,U,hd,hs,hz,r⟩
 ·erw[h.ok I.hok,z,its,n,r,e];exact⟨its,r,⟨_,n,e,1,1,1⟩,z⟩
 ·exists its.toList,r,⟨o,n,I.kIn a o O,U,hd,by simpa using hs⟩
  have e:=r.length;simp only [uU] at e;omega
theorem Inv.tuple (I:Inv X oq σ H s)(h:SqT X.K H a xs):∃its:oj o6,Vals xs its/\Gu s.heap a its.toArray/\xs.length<=sizeLine:=by
 rcases h with h|⟨o,its,n,O,U,hs,hz,r⟩
 ·erw[h.ok I.hok,z,its,r,p];exact⟨its,r,p,z⟩
 ·exists its.toList,r,⟨o,I.kIn a o O,U,n,by simpa using hs⟩
  have e:=r.length;simp only [uU] at e;omega
theorem Inv.list_inj (I:Inv X oq σ H s)(h:SqL X.K H a xs)(h':SqL X.K H a ys):xs=ys:=by
 erw[I.list h,its,r,[o,n,e,_,_,d],_];erw[I.list h',its',U,[o',n',O,_,_,d'],_];rw [e] at O;cases O;rw [d] at d';injection d' with d1 _
 have:its=its':=by simpa using congrArg rf d1
 subst this;exact r.inj U
theorem Inv.tuple_inj (I:Inv X oq σ H s)(h:SqT X.K H a xs)(h':SqT X.K H a ys):xs=ys:=by
 erw[I.tuple h,its,r,[o,e,_,n,d],_];erw[I.tuple h',its',U,[o',O,_,n',d'],_];rw [e] at O;cases O;rw [d] at d';injection d' with d1 _
 have:its=its':=by simpa using congrArg rf d1
 subst this;exact r.inj U
end
noncomputable abbrev Cx.wish (X:Cx)(E:o6->o7->Prop):Cx:={X with xe:=E}
noncomputable abbrev Cx.nox (X:Cx):Cx:=X.wish λ_ _=>False
theorem Cx.Ok.wish (ok:X.Ok)(E:o6->o7->Prop):(X.wish E).Ok:=
 ⟨ok.mod,ok.kind,ok.glob,ok.blt,ok.above,ok.inj,ok.has,ok.cab,ok.hd,ok.frames,ok.stk,ok.exf,ok.bs,ok.bsz,ok.noex,ok.exfs,ok.funs,ok.frf⟩
theorem Cx.Ok.unwish {E:o6->o7->Prop}(ok:(X.wish E).Ok):X.Ok:=
 ⟨ok.mod,ok.kind,ok.glob,ok.blt,ok.above,ok.inj,ok.has,ok.cab,ok.hd,ok.frames,ok.stk,ok.exf,ok.bs,ok.bsz,ok.noex,ok.exfs,ok.funs,ok.frf⟩
section
variable {X:Cx}{oq:oj (o3×Obj)}{σ:St}{H:Hp}{s:o7}{E:o6->o7->Prop}
theorem Inv.wish (I:Inv X oq σ H s)(E:o6->o7->Prop):Inv (X.wish E) oq σ H s:=⟨I.ok.wish E,I.os,I.bare,I.base,I.loc,I.cell,I.free,I.freeC,I.pin,I.hok,I.len,I.tk⟩
theorem Inv.unwish (I:Inv (X.wish E) oq σ H s):Inv X oq σ H s:=⟨I.ok.unwish,I.os,I.bare,I.base,I.loc,I.cell,I.free,I.freeC,I.pin,I.hok,I.len,I.tk⟩
theorem SP.unwish {D:Ends}{f:Flow}{s':o7}(h:SP (X.wish E) oq D f s'):SP X oq D f s':=by
 cases f with
 |next=>erw[h,O,H',I,q];exact⟨O,H',I.unwish,q⟩
 |brk=>erw[h,O,H',I,q];exact⟨O,H',I.unwish,q⟩
 |cont=>erw[h,O,H',I,q];exact⟨O,H',I.unwish,q⟩
 |ret u=>erw[h,v,O,H',I,r,q];exact⟨v,O,H',I.unwish,r,q⟩
theorem PSs.nox {st:oj Stmt}{t:TS}(h:PSs X.nox st t):PSs X st t:=λoq s σ H D I hw=>
 vN (h oq s σ H D (I.wish _) hw) (λ_ _ q=>q.unwish) λ_ _ z=>VB z
end
section
variable {X:Cx}{st:Stmt}{rest:oj Stmt}{t u:TS}{e:Expr}{te:TE}{pos:Pos}
noncomputable def tNext:TS:=λD σ H=>D.nx σ H
noncomputable def tSeq (t u:TS):TS:=λD σ H=>t {D with nx:=u D} σ H
theorem qv:PSs X [] tNext:=λ_ _ σ H _ I h=>Hr ⟨σ,H,I,h⟩
theorem qc (h1:PS X st t)(h2:PSs X rest u):PSs X (st::rest) (tSeq t u):=by
 intro oq s σ H D I h;refine RH (thn (h1 oq s σ H {D with nx:=u D} I h) λf s1 q=> ?_)
 cases f with
 |next=>
  erw[q,O,H',U,q];exact h2 oq s1 O H' D U q
 |ret v=>exact q
 |brk=>exact q
 |cont=>exact q
theorem qf (h1:PS X st t):PSs X [st] t:=by
 intro oq s σ H D I h;refine RH (thn (h1 oq s σ H D I h) λf s1 q=> ?_);cases f with
 |next=>exact Hr q
 |ret v=>exact q
 |brk=>exact q
 |cont=>exact q
noncomputable def tBreak:TS:=λD σ H=>D.bk σ H
noncomputable def tCont:TS:=λD σ H=>D.ct σ H
theorem ps_pass:PS X (.Pass pos) tNext:=λ_ _ σ H _ I h=>wpAny_Pass ⟨σ,H,I,h⟩
theorem ps_break:PS X (.Break pos) tBreak:=λ_ _ σ H _ I h=>wpAny_Break ⟨σ,H,I,h⟩
theorem ps_continue:PS X (.Continue pos) tCont:=λ_ _ σ H _ I h=>wpAny_Continue ⟨σ,H,I,h⟩
variable {oq:oj (o3×Obj)}{σ:St}
theorem Inv.quiet (I:Inv X oq σ H s):FI X.env=false:=by simp [FI,I.ok.kind]
noncomputable def tDrop (te:TE):TS:=λD σ H=>te σ H λ_ H1=>D.nx σ H1
theorem qV (O:PE X e te)(U:GU e U_ pos.line X.env=pure V7):PS X (.Expr e pos) (tDrop te):=by
 intro oq s σ H D I h;exact wpAny_Expr_any (thn (O oq s σ H _ I h) λv s1 ⟨x,H1,I1,r1,q1⟩=>⟨σ,H1,I1,q1⟩) I.quiet U
noncomputable def tRet (te:TE):TS:=λD σ H=>te σ H D.rt
theorem qt (O:PE X e te):PS X (.Return (u_ e) pos) (tRet te):=by
 intro oq s σ H D I h;exact wpAny_Return_some (thn (O oq s σ H _ I h) λv s1 ⟨x,H1,U,r1,q1⟩=>⟨x,σ,H1,U,r1,q1⟩)
noncomputable def tRetN:TS:=λD _ H=>D.rt .non H
theorem ps_retN:PS X (.Return U_ pos) tRetN:=λ_ _ σ H _ I h=>wpAny_Return_none ⟨.non,σ,H,I,1,h⟩
noncomputable def tIfS (c:TT)(t u:TS):TS:=λD σ H=>c σ H λb H1=>if b=v_ then t D σ H1 else u D σ H1
theorem qI {c:Expr}{a b:oj Stmt}{tc:TT}(U:PT X c tc)(ha:PSs X a t)(hb:PSs X b u):PS X (.If c a b pos) (tIfS tc t u):=by
 intro oq s σ H D I h;refine wpAny_If (thn (U oq s σ H _ I h) λd s1 zq=> ?_);erw[zq,H1,O,q1];cases d with
 |true=>exact ha oq s1 σ H1 D O q1
 |false=>exact hb oq s1 σ H1 D O q1
noncomputable def tNever:TS:=λ_ _ _=>False
theorem js:PS X st tNever:=λ_ _ _ _ _ _ h=>h.elim
end
noncomputable abbrev TG:=V->St->Hp->(St->Hp->Prop)->Prop
noncomputable abbrev TGs:=oj V->St->Hp->(St->Hp->Prop)->Prop
noncomputable def PG (X:Cx)(target:Expr)(t:TG):Prop:=
 ∀(oq:oj (o3×Obj)) (s:o7) (σ:St) (H:Hp) (v:V) (u:o6) (Q:St->Hp->Prop),Inv X oq σ H s->RelV v u->t v σ H Q->
  V8 #[X,X] X.A (gO target X.env u) (λ_ s'=>∃σ' H',Inv X oq σ' H' s'/\Q σ' H') X.xe s
noncomputable def PGs (X:Cx)(ts:oj Expr)(t:TGs):Prop:=
 ∀(oq:oj (o3×Obj)) (s:o7) (σ:St) (H:Hp) (vs:oj V) (us:oj o6) (Q:St->Hp->Prop),Inv X oq σ H s->Vals vs us->t vs σ H Q->
  V8 #[X,X] X.A (assignInOrder ((VU ts X.env).map (·.2)) us) (λ_ s'=>∃σ' H',Inv X oq σ' H' s'/\Q σ' H') X.xe s
noncomputable abbrev TSet:=V->V->V->Hp->(Hp->Prop)->Prop
noncomputable def PSet (X:Cx)(t:TSet):Prop:=
 ∀(oq:oj (o3×Obj)) (s:o7) (σ:St) (H:Hp) (o i v:V) (ov iv u:o6) (Q:Hp->Prop),Inv X oq σ H s->RelV o ov->RelV i iv->RelV v u->t o i v H Q->
  V8 #[X,X] X.A (tG ov iv u) (λ_ s'=>∃H',Inv X oq σ H' s'/\Q H') X.xe s
noncomputable abbrev TIp:=V->V->Hp->VK->Prop
noncomputable def PIp (X:Cx)(op:GW)(t:TIp):Prop:=
 ∀(oq:oj (o3×Obj)) (s:o7) (σ:St) (H:Hp) (x y:V) (v u:o6) (Q:VK),Inv X oq σ H s->RelV x v->RelV y u->t x y H Q->
  V8 #[X,X] X.A (HW op v u) (EP X oq σ Q) X.xe s
section
variable {X:Cx}{pos:Pos}
noncomputable def jI (i:Nat):TG:=λv σ H Q=>Q (σ.set i (u_ v)) H
theorem qT {i:Nat}{x:Str}(O:X.N.Nodup)(hi:X.N[i]? =u_ x)(U:Loc X.env.scope x)(hf:X.fn x=v_∨X.env.scope.names.lookup x=u_ .local):PG X (.Name x pos) (jI i):=by
 intro oq s σ H v u Q I r h;exact Rr (kD I O hi U r (λs' I'=>⟨_,H,I',h⟩) hf)
noncomputable def gNil:TGs:=λvs σ H Q=>vs= []/\Q σ H
noncomputable def gCons (t:TG)(u:TGs):TGs:=λvs σ H Q=>∃v r,vs=v::r/\t v σ H λσ' H'=>u r σ' H' Q
theorem ZP:PGs X [] gNil:=by
 intro oq s σ H vs us Q I r h;erw[h,e,h];subst e;cases r;exact assignInOrder_nil ⟨σ,H,I,h⟩
theorem yD {e:Expr}{es:oj Expr}{t:TG}{u:TGs}(h1:PG X e t)(h2:PGs X es u)
  (O:(VU (e::es) X.env).map (·.2)=gO e X.env::(VU es X.env).map (·.2):=by rfl):PGs X (e::es) (gCons t u):=by
 intro oq s σ H vs us Q I r h;erw[h,v,vr,U,h];subst U;cases r with
 |cons r rr=>
  rw [O];refine assignInOrder_cons (thn (h1 oq s σ H _ _ _ I r h) λ_ s1 zq=> ?_);erw[zq,σ1,H1,I1,q1];exact h2 oq s1 σ1 H1 _ _ Q I1 rr q1
noncomputable def gTup (K:o0)(n:Nat)(t:TGs):TG:=λv σ H Q=>∃a xs,v= .ref a/\SqT K H a xs/\xs.length=n/\t xs σ H Q
theorem pg_tup {es:oj Expr}{k:Nat}{t:TGs}{n:Nat}(hc:X.calm=v_)(h:PGs X es t)
  (hn:(VU es X.env).length=n:=by rfl) (O:(VU es X.env).findIdx? (·.1)=none:=by rfl):PG X (.Tuple es k pos) (gTup X.K n t):=by
 intro oq s σ H v u Q I r U;erw[U,a,xs,e1,hq,hl,U];subst e1;cases r;erw[I.tuple hq,its,rv,ht,hz];refine assign_Tuple_tuple (I.ok.hd hc) ht (by simp [hn,<-hl,rv.length]) O λh' hx=> ?_
 have I1:Inv X oq σ H {s with heap:=h'}:=I.kept (t':=s.toks) λb o e=>hx b o (uL (uA e)) e
 exact h oq _ σ H xs _ Q I1 (by simpa using rv) U
noncomputable def gSub (to ti:TE)(t:TSet):TG:=λv σ H Q=>to σ H λo H1=>ti σ H1 λi H2=>t o i v H2 λH3=>Q σ H3
theorem pg_sub {o i:Expr}{to ti:TE}{t:TSet}(U:PE X o to)(hi:PE X i ti)(hs:PSet X t)
  (ha:∀v,gO (.Subscript o i pos) X.env v=(do
   let ov<-gV [v] (eval o X.env)
   let O<-gV [v,ov] (eval i X.env)
   GT pos
   gV [v,ov,O] (tG ov O v)
   release [v,ov,O] [])):PG X (.Subscript o i pos) (gSub to ti t):=by
 intro oq s σ H v u Q I r h;rw [ha];refine A6 (VF (thn (U oq s σ H _ I h) λov s1 zq=> ?_));erw[zq,x,H1,I1,r1,q1];refine A6 (VF (thn (hi oq s1 σ H1 _ I1 q1) λO s2 zq=> ?_));erw[zq,y,H2,I2,r2,q2];refine A6 (HC (A6 (VF (thn (hs oq s2 σ H2 x y v ov O u _ I2 r1 r2 r q2) λ_ s3 zq=> ?_))));erw[zq,H3,I3,q3];exact wpAny_release ⟨σ,H3,I3,q3⟩
noncomputable def tAsg (te:TE)(g:TG):TS:=λD σ H=>te σ H λx H1=>g x σ H1 D.nx
theorem ps_asg {tg e:Expr}{te:TE}{g:TG}(O:PE X e te)(U:PG X tg g)(hs:swapsWithSole [tg] e pos.line X.env=pure V7)(hw:swappedStores [tg] e X.env=pure U_)
  (h1:(VU [tg] X.env).map (·.2)= [gO tg X.env]):PS X (.Assign [tg] e pos) (tAsg te g):=by
 intro oq s σ H D I h;refine wpAny_Assign_stores (thn (O oq s σ H _ I h) λv s1 zq=> ?_) hs hw;erw[zq,x,H1,I1,r1,q1];rw [h1];exact thn (U oq s1 σ H1 x v _ I1 r1 q1) λ_ s2 q=>q
theorem qC {i:Nat}{x:Str}{e:Expr}{te:TE}{pos':Pos}(O:X.N.Nodup)(hi:X.N[i]? =u_ x)(U:Loc X.env.scope x)(he:PE X e te)(hs:GU e (u_ (.Name x pos')) pos.line X.env=pure V7)(hf:X.fn x=v_∨X.env.scope.names.lookup x=u_ .local):
  PS X (.Assign [.Name x pos'] e pos) (tAsg te (jI i)):=by
 intro oq s σ H D I h;refine wpAny_Assign_Name (thn (he oq s σ H _ I h) λv s1 zq=> ?_) hs;erw[zq,y,H1,I1,r1,q1];exact kD I1 O hi U r1 (λs2 I2=>⟨_,H1,I2,q1⟩) hf
inductive tAug (i:Nat) (te:TE) (ti:TIp) (D:Ends) (σ:St) (H:Hp):Prop
 |mk (x:_) (_:σ[i]? =u_ (u_ x)) (_:te σ H λy H1=>ti x y H1 λz H2=>D.nx (σ.set i (u_ z)) H2)
theorem ps_aug {i:Nat}{x:Str}{e:Expr}{te:TE}{op:GW}{ti:TIp}{pos':Pos}(hN:X.N.Nodup)(hi:X.N[i]? =u_ x)(hx:Loc X.env.scope x)(he:PE X e te)(ho:PIp X op ti)(hf:X.fn x=v_∨X.env.scope.names.lookup x=u_ .local):
  PS X (.AugAssign (.Name x pos') op e pos) (tAug i te ti):=by
 intro oq s σ H D I h;erw[h,v,e1,h];erw[I.loc,m,hn,hl];have vis:Vis X.env.scope x:=by rcases hx with k|k;exact .inl k;exact .inr (.inl k)
 erw[hl i x v hi e1 vis,u,r,l];refine wpAny_AugAssign_Name ?_;have go:V8 #[X,X] X.A (eval e X.env) (λw s₂=>V8 #[X,X] X.A (HW op u w) (λr s₃=>V8 #[X,X] X.A (Hl X.env x r) (λ_=>SP X oq D .next) X.xe s₃) X.xe s₂) X.xe s:=by
  refine thn (he oq s σ H _ I h) λw s1 zq=> ?_;erw[zq,y,H1,I1,r1,q1];refine thn (ho oq s1 σ H1 v y u w _ I1 r r1 q1) λz s2 zq=> ?_;erw[zq,zv,H2,I2,r2,q2];exact kD I2 hN hi hx r2 (λs3 I3=>⟨_,H2,I3,q2⟩) hf
 rcases l with⟨O,hm⟩|⟨O,c,hc,U⟩
 ·exact RB I.ok.kind O hn hm go
 ·rcases O with O|O
  ·exact rS I.ok.kind O hc U go
  ·rcases hx with k|k
   ·have:X.env.scope.names.lookup x=u_ .free:=O;rw [k] at this;cases this
   ·have:X.env.scope.names.lookup x=u_ .free:=O;rw [k] at this;cases this
noncomputable def ipI (f:Int->Int->Int):TIp:=λx y H Q=>∃i j,x= .int i/\y= .int j/\Q (.int (f i j)) H
theorem ip_add:PIp X .Add (ipI λi j=>i+j):=by
 intro oq s σ H x y v u Q I O U h;erw[h,i,j,e1,e2,q];subst e1;subst e2;erw[O,t,rfl];erw[U,t',rfl];exact iadd_int ⟨.int _,H,I.tok _,⟨0⟩,q⟩
noncomputable def tWhile (c:TT)(tb:TS):TS:=λD σ H=>∃W:Nat->St->Hp->Prop,(∃m,W m σ H)/\∀m σ H,W m σ H->
 c σ H λb H1=>if b=v_ then∃N:St->Hp->Prop,(∀σ' H',N σ' H'->∃m',m'<m/\W m' σ' H')/\tb {D with nx:=N,ct:=N,bk:=D.nx} σ H1 else D.nx σ H1
theorem J5 {c:Expr}{O:oj Stmt}{tc:TT}{tb:TS}(hp:PassesOwn #[X,X] X.A X.env X.xe)(hc:PT X c tc)(hb:PSs X O tb):PS X (.While c O [] pos) (tWhile tc tb):=by
 intro oq s σ H D I h;erw[h,W,[m0,w0],U];refine wpAny_While (codeAny_whileLoop (λn s'=>∃σ' H',Inv X oq σ' H' s'/\W n σ' H') ?_ m0 ⟨σ,H,I,w0⟩);rintro n s1 ⟨σ1,H1,I1,w1⟩;refine Ub hp (thn (hc oq s1 σ1 H1 _ I1 (U n σ1 H1 w1)) λb s2 zq=> ?_);erw[zq,H2,I2,q2];cases b with
 |true=>
  erw[q2,N,hN,q2];rw [A5 rfl];refine Ub hp (thn (hb oq s2 σ1 H2 _ I2 q2) λf s3 q3=> ?_);cases f with
  |next=>
   erw[q3,σ3,H3,I3,n3];erw[hN σ3 H3 n3,m',hm,w3];exact⟨m',hm,σ3,H3,I3,w3⟩
  |cont=>
   erw[q3,σ3,H3,I3,n3];erw[hN σ3 H3 n3,m',hm,w3];exact⟨m',hm,σ3,H3,I3,w3⟩
  |brk=>exact q3
  |ret v=>exact q3
 |false=>
  rw [A4 u9];exact Hr ⟨σ1,H2,I2,q2⟩
end
structure It where
 go:Nat->Hp->Prop
 yld:Nat->Hp->V->Hp->Prop
 stop:Nat->Hp->Prop
noncomputable def FpOk (X:Cx)(oq:oj (o3×Obj))(H:Hp)(b:o3):Prop:=
 H b=U_/\b≠X.env.locals/\b∉X.fs/\(b∈X.ex∨X.s₀.heap.objs.size<=b)/\(∀x c,X.env.cells.lookup x=u_ c->c≠b)/\∀p∈X.pn++oq,p.1≠b
variable {oq:oj (o3×Obj)}{σ:St}{H':Hp}
theorem Inv.fpOk (I:Inv X oq σ H s)(O:s.heap.objs.size<=b)(hn:H' b=U_):FpOk X oq H' b:=by
 refine⟨hn,vU (Vm I.lt O),I.nofs O,.inr (uI I.sz O),λx c e z=> ?_,λp U z=> ?_⟩
 ·erw[I.cell x c e,v,q];exact absurd (Vm q.lt (by rwa [z])) (vK _)
 ·exact absurd (Vm (uA (I.pin p U).1) (by rwa [z])) (vK _)
structure Turn (P:o9)(w:og)(K:o0)(tg:Expr)(J:It)(fp:oj o3)(it:o3)(tn:Nat->o8->Prop):Prop where
 mem:it∈fp
 obj:∀i h,tn i h->∀b∈fp,∃o,h.get? b=u_ o/\∀v,o.data≠ .cell v
 keep:∀i h h',tn i h->(∀b∈fp,∀o,h.get? b=u_ o->h'.get? b=u_ o)->tn i h'
 item:∀(X:Cx),X.prog=P->X.w=w->X.K=K->X.calm=v_->∀(i:Nat) (oq:oj (o3×Obj)) (s:o7) (σ:St) (H:Hp) (E:o6->o7->Prop),Inv X oq σ H s->(∀b∈fp,FpOk X oq H b)->tn i s.heap->J.go i H->
  V8 (Vq P w) X.A (VY (.ref it)) (λr s1=>∃u,r=u_ u/\
   V8 (Vq P w) X.A (HB tg (.ref it) u) (λ_ s2=>∃x H',Inv X oq σ H' s2/\RelV x u/\J.yld i H x H'/\tn (i+1) s2.heap/\∀b∈fp,H' b=U_) E s1) E s
 done:∀(X:Cx),X.prog=P->X.w=w->X.K=K->X.calm=v_->∀(i:Nat) (oq:oj (o3×Obj)) (s:o7) (σ:St) (H:Hp) (E:o6->o7->Prop),Inv X oq σ H s->(∀b∈fp,FpOk X oq H b)->tn i s.heap->J.stop i H->
  V8 (Vq P w) X.A (VY (.ref it)) (λr s1=>r=U_/\Inv X oq σ H s1) E s
 self:∀(A:oh) (i:Nat) (s:o7) (Q:o6->o7->Prop) (E:o6->o7->Prop),tn i s.heap->Q (.ref it) s->V8 (Vq P w) A (Hy (.ref it)) Q E s
noncomputable abbrev TI:=St->Hp->(It->Hp->Prop)->Prop
noncomputable def PIE (X:Cx)(oq:oj (o3×Obj))(σ:St)(tg:Expr)(R:It->Hp->Prop)(itv:o6)(s2:o7):Prop:=
 ∃(it:o3) (fp:oj o3) (tn:Nat->o8->Prop) (J:It) (H':Hp),itv= .ref it/\Inv X oq σ H' s2/\Turn X.prog X.w X.K tg J fp it tn/\tn 0 s2.heap/\(∀b∈fp,FpOk X oq H' b)/\R J H'
noncomputable def PI (X:Cx)(tg iter:Expr)(wi:TI):Prop:=
 ∀(oq:oj (o3×Obj)) (s:o7) (σ:St) (H:Hp) (R:It->Hp->Prop),Inv X oq σ H s->wi σ H R->
  V8 #[X,X] X.A (eval iter X.env) (λv s1=>V8 #[X,X] X.A (Hy v) (PIE X oq σ tg R) X.xe s1) X.xe s
theorem go_of {M:Gq}{A:oh}{E:o6->o7->Prop}{s:o7}{tg:Expr}{it:o3}{u:o6}{o:Obj}{n:String}{vs:Array o6}{Q:Unit->o7->Prop}(U:s.heap.get? it=u_ o)(hc:o.cls= .type n)(hd:o.data= .fields vs)
  (hn: ["enumerate","zip","dict_itemiterator","dict_reverseitemiterator","odict_iterator","itertools.zip_longest","itertools.pairwise"].contains n=V7) (O:Q GH s):V8 M A (HB tg (.ref it) u) Q E s:=by
 unfold HB;cases tg<;>first
  |exact uw O
  |(cases u<;>first
    |exact uw O
    |(refine A6 (GZ U ?_)
      rw [hc,hd];show V8 M A (if(["enumerate","zip","dict_itemiterator","dict_reverseitemiterator","odict_iterator","itertools.zip_longest","itertools.pairwise"].contains n&&vs[0]? ==u_ (VX _))=v_ then _ else _) Q E s
      rw [A4 (by intro h;rw [hn,tT] at h;cases h)]
      exact uw O))
noncomputable def Itl (K:o0)(a:o3):It:=
 ⟨λi H=>∃xs x,SqL K H a xs/\xs[i]? =u_ x,λi H x H'=>H'=H/\∀xs,SqL K H a xs->xs[i]? =u_ x,λi H=>∃xs,SqL K H a xs/\xs.length<=i⟩
noncomputable def Itt (K:o0)(a:o3):It:=
 ⟨λi H=>∃xs x,SqT K H a xs/\xs[i]? =u_ x,λi H x H'=>H'=H/\∀xs,SqT K H a xs->xs[i]? =u_ x,λi H=>∃xs,SqT K H a xs/\xs.length<=i⟩
noncomputable def Itr (lo:Int)(n:Nat):It:=[λi _=>i<n:λi H x H'=>H'=H/\x= .int (lo+i):λi _=>n<=i]
variable {K:o0}{tg:Expr}
theorem turn_list {P:o9}(a it:o3):Turn P w K tg (Itl K a) [it] it (λi h=>h.IsListIter it a i) where
 mem:=by simp
 obj:=λi h st b O=>by
  have e:b=it:=by simpa using O
  subst e;erw[st,o,e,c,d];exact⟨o,e,λv z=>by rw [d] at z;cases z⟩
 keep:=λi h h' st k=>st.at λo e=>k it (by simp) o e
 item:=by
  intro X hP hw hK hc i oq s σ H E I hf st hg;subst hP hw hK;erw[hg,xs,x,hq,hx];erw[I.list hq,its,rv,p,hz];erw[rv.get hx,u,hu,ru];obtain⟨f0,f1,f2,f3,f4,f5⟩:=hf it (by simp)
  refine FO st p.isList (x:=u) (by simpa using hu) λh' U sb=> ?_
  have I1:Inv X oq σ H {s with heap:=h'}:=I.turned (t':=s.toks) (λb o O e=>(sb.2 b O).trans e) f0 f1 f3 f4 f5
  erw[id U,o,e,c,d];exact⟨u,1,go_of (s:={s with heap:=h'}) e c d () ⟨x,H,I1,ru,⟨1,λys hy=>by rwa [I.list_inj hy hq]⟩,U,λb O=>(hf b O).1⟩⟩
 done:=by
  intro X hP hw hK hc i oq s σ H E I hf st hg;subst hP hw hK;erw[hg,xs,hq,hx];erw[I.list hq,its,rv,p,hz];obtain⟨f0,f1,f2,f3,f4,f5⟩:=hf it (by simp)
  have hl:=rv.length;exact R6 (I.ok.hd hc) st p.isList (by simp;omega) λh' eb=>[1:I.turned (t':=s.toks) (λb o O e=>eb b o O e) f0 f1 f3 f4 f5]
 self:=λ_ _ _ _ _ st h=>wpAny_pyIter_listiter st h
theorem kh {P:o9}(a it:o3):Turn P w K tg (Itt K a) [it] it (λi h=>h.IsTupleIter it a i) where
 mem:=by simp
 obj:=λi h st b O=>by
  have e:b=it:=by simpa using O
  subst e;erw[st,o,e,c,d];exact⟨o,e,λv z=>by rw [d] at z;cases z⟩
 keep:=λi h h' st k=>st.at λo e=>k it (by simp) o e
 item:=by
  intro X hP hw hK hc i oq s σ H E I hf st hg;subst hP hw hK;erw[hg,xs,x,hq,hx];erw[I.tuple hq,its,rv,p,hz];erw[rv.get hx,u,hu,ru];obtain⟨f0,f1,f2,f3,f4,f5⟩:=hf it (by simp)
  refine wpAny_pyNext_tuple_item st (show s.heap.IsTuple a its.toArray from p) (x:=u) (by simpa using hu) λh' U sb=> ?_
  have I1:Inv X oq σ H {s with heap:=h'}:=I.turned (t':=s.toks) (λb o O e=>(sb.2 b O).trans e) f0 f1 f3 f4 f5
  erw[id U,o,e,c,d];exact⟨u,1,go_of (s:={s with heap:=h'}) e c d () ⟨x,H,I1,ru,⟨1,λys hy=>by rwa [I.tuple_inj hy hq]⟩,U,λb O=>(hf b O).1⟩⟩
 done:=by
  intro X hP hw hK hc i oq s σ H E I hf st hg;subst hP hw hK;erw[hg,xs,hq,hx];erw[I.tuple hq,its,rv,p,hz];obtain⟨f0,f1,f2,f3,f4,f5⟩:=hf it (by simp)
  have hl:=rv.length;exact wpAny_pyNext_tuple_end (I.ok.hd hc) st (show s.heap.IsTuple a its.toArray from p) (by simp;omega) λh' eb=>[1:I.turned (t':=s.toks) (λb o O e=>eb b o O e) f0 f1 f3 f4 f5]
 self:=λ_ _ _ _ _ st h=>wpAny_pyIter_tupleiter st h
theorem turn_range {P:o9}(it:o3)(lo:Int)(n:Nat):Turn P w K tg (Itr lo n) [it] it (λi h=>FS h it (lo+(i:Nat)*1) ((n:Int)-(i:Nat)) 1) where
 mem:=by simp
 obj:=λi h st b O=>by
  have e:b=it:=by simpa using O
  subst e;exact⟨_,st,λv z=>by
   have z':Data.fields _=Data.cell v:=z;cases z'⟩
 keep:=λi h h' st k=>k it (by simp) _ st
 item:=by
  intro X hP hw hK hc i oq s σ H E I hf st hg;subst hP hw hK;obtain⟨f0,f1,f2,f3,f4,f5⟩:=hf it (by simp)
  have W:=Walks.range (prog:=X.prog) (w:=X.w) (I.ok.hd hc) it lo 1 n;refine uS (n:=1) I.tk (W.item i s _ _ hg st λv h' tk hv U kk=> ?_);intro htk;erw[hv,t,rfl];have I1:Inv X oq σ H {s with heap:=h',toks:=tk}:=I.turned (λb o O e=>kk b o (by simpa using O) e) f0 f1 f3 f4 f5
  refine[0:go_of (s:={s with heap:=h',toks:=tk}) (n:="range_iterator") U rfl rfl () ⟨.int (lo+i),H,I1,[t:?_],[1:1],U,λb O=>(hf b O).1⟩]
  rw [Int.mul_one]
 done:=by
  intro X hP hw hK hc i oq s σ H E I hf st hg;subst hP hw hK;obtain⟨f0,f1,f2,f3,f4,f5⟩:=hf it (by simp)
  exact wpAny_pyNext_range_end (I.ok.hd hc) st (by have:n<=i:=hg;omega) λh' eb=>[1:I.turned (t':=s.toks) (λb o O e=>eb b o O e) f0 f1 f3 f4 f5]
 self:=λ_ _ _ _ _ st h=>wpAny_pyIter_rangeiter st h
section
variable {X:Cx}{tg:Expr}
inductive IiList (K:PySem.W.Frag) (R:(It->Hp->Prop)) (x:V) (H1:Hp):Prop
 |mk (a:_) (_:x= .ref a) (_:(∃xs,SqL K H1 a xs)) (_:R (Itl K a) H1)
noncomputable def iList (K:o0)(tl:TE):TI:=λσ H R=>tl σ H λx H1=>IiList K R x H1
inductive IiTup (K:PySem.W.Frag) (R:(It->Hp->Prop)) (x:V) (H1:Hp):Prop
 |mk (a:_) (_:x= .ref a) (_:(∃xs,SqT K H1 a xs)) (_:R (Itt K a) H1)
noncomputable def iTup (K:o0)(tl:TE):TI:=λσ H R=>tl σ H λx H1=>IiTup K R x H1
theorem X7 {l:Expr}{tl:TE}(U:PE X l tl):PI X tg l (iList X.K tl):=by
 intro oq s σ H R I h;refine thn (U oq s σ H _ I h) λv s1 zq=> ?_;erw[zq,x,H1,O,r1,q1];erw[q1,a,e,[xs,hq],q];subst e;cases r1;erw[O.list hq,its,rv,p,hz];refine UT p.isList ?_;refine⟨s1.heap.objs.size,[s1.heap.objs.size],_,_,H1,1,O.kept (t':=s1.toks) λb o e=>ud _ e,turn_list a _,⟨_,uC _ rfl,1,1⟩,λb hb=> ?_,q⟩;have e:b=s1.heap.objs.size:=by simpa using hb
 subst e;exact O.fpOk (uh _) (O.hok.fresh (uh _))
theorem pi_tup {l:Expr}{tl:TE}(U:PE X l tl):PI X tg l (iTup X.K tl):=by
 intro oq s σ H R I h;refine thn (U oq s σ H _ I h) λv s1 zq=> ?_;erw[zq,x,H1,O,r1,q1];erw[q1,a,e,[xs,hq],q];subst e;cases r1;erw[O.tuple hq,its,rv,p,hz];refine tZ (show s1.heap.IsTuple a its.toArray from p) ?_
 refine⟨s1.heap.objs.size,[s1.heap.objs.size],_,_,H1,1,O.kept (t':=s1.toks) λb o e=>ud _ e,kh a _,⟨_,uC _ rfl,1,1⟩,λb hb=> ?_,q⟩;have e:b=s1.heap.objs.size:=by simpa using hb
 subst e;exact O.fpOk (uh _) (O.hok.fresh (uh _))
theorem range_it {oq:oj (o3×Obj)}{σ:St}{H:Hp}{s:o7}{R:It->Hp->Prop}{E:o6->o7->Prop}{lo hi:Int}{t u v:Tok}{tk:Nat}(I:Inv X oq σ H s)(h1: -(2^62)<=lo)(h2:lo<2^62)(h3: -(2^62)<=hi)(h4:hi<2^62)
  (q:R (Itr lo (hi-lo).toNat) H) (htk:0<tk:=by ac_rfl):V8 #[X,X] X.A (Hy (.ref s.heap.objs.size)) (PIE X oq σ tg R) E {s with heap:=s.heap.push {cls:= .type "range",data:= .fields #[.int lo t,.int hi u,.int 1 v]},toks:=tk}:=by
 refine wpAny_pyIter_range (IsRange.new ..) (small_one h1 h2 h3 h4) ?_;have O:Inv X oq σ H {s with heap:=s.heap.push {cls:= .type "range",data:= .fields #[.int lo t,.int hi u,.int 1 v]},toks:=tk}:=I.kept λb o e=>ud _ e
 refine⟨(s.heap.push {cls:= .type "range",data:= .fields #[.int lo t,.int hi u,.int 1 v]}).objs.size,[(s.heap.push {cls:= .type "range",data:= .fields #[.int lo t,.int hi u,.int 1 v]}).objs.size],_,_,H,1,
  O.kept (t':=tk) λb o e=>ud _ e,turn_range _ lo (hi-lo).toNat,?_,λb U=> ?_,q⟩
 ·have e1:lo+((0:Nat):Int)*1=lo:=by simp
  have e2:(((hi-lo).toNat:Nat):Int)-((0:Nat):Int)=pR lo hi 1:=by rw [rangeSize_one];split<;>omega
  show FS _ _ (lo+((0:Nat):Int)*1) ((((hi-lo).toNat:Nat):Int)-((0:Nat):Int)) 1;rw [e1,e2];exact uC _ rfl
 ·have e:b=(s.heap.push {cls:= .type "range",data:= .fields #[.int lo t,.int hi u,.int 1 v]}).objs.size:=by simpa using U
  subst e;exact O.fpOk (uh _) (O.hok.fresh (uh _))
inductive IiRng1 (R:(It->Hp->Prop)) (vs:List V) (H1:Hp):Prop
 |mk (j:Int) (_:vs= [.int j]) (_: -(2^62)<=j) (_:j<2^62) (_:R (Itr 0 j.toNat) H1)
noncomputable def iRng1 (ta:TA):TI:=λσ H R=>ta σ H λvs H1=>IiRng1 R vs H1
inductive IiRng2 (R:(It->Hp->Prop)) (vs:List V) (H1:Hp):Prop
 |mk (i j:Int) (_:vs= [.int i,.int j]) (_:(-(2^62)<=i/\i<2^62/\ -(2^62)<=j/\j<2^62)) (_:R (Itr i (j-i).toNat) H1)
noncomputable def iRng2 (ta:TA):TI:=λσ H R=>ta σ H λvs H1=>IiRng2 R vs H1
theorem jj {a:Expr}{ta:TA}{p pos:Pos}(O:Gl X "range")(hm:X.mg "range"=U_)(ha:PA X [a] ta)(U:Vd [a] X.env= [(V7,eval a X.env)]):PI X tg (.Call (.Name "range" p) [a] [] pos) (iRng1 ta):=by
 intro oq s σ H R I h;refine Hz (XO I O hm boot_range (vf (thn (ha pos oq s σ H _ I h) λus s1 zq=> ?_) U rfl));erw[zq,vs,H1,I1,r1,q1];erw[q1,j,e,q1,q2,q];subst e;cases r1 with
 |cons r rr=>
  cases rr;erw[r,t,rfl];exact call_range_1 (range_it I1 () () q1 q2 (by simpa using q))
theorem pi_range2 {a b:Expr}{ta:TA}{p pos:Pos}(U:Gl X "range")(hm:X.mg "range"=U_)(ha:PA X [a,b] ta)(hs:Vd [a,b] X.env= [(V7,eval a X.env),(V7,eval b X.env)])(O:Vd [b] X.env= [(V7,eval b X.env)]):
  PI X tg (.Call (.Name "range" p) [a,b] [] pos) (iRng2 ta):=by
 intro oq s σ H R I h;refine Hz (XO I U hm boot_range (vf (thn (ha pos oq s σ H _ I h) λus s1 zq=> ?_) (by rw [hs,O]) (by rw [O];rfl)));erw[zq,vs,H1,I1,r1,q1]
 erw[q1,i,j,e,[q1,q2,q3,q4],q];subst e;cases r1 with
 |cons r rr=>
  cases rr with
  |cons r' rr=>
   cases rr;erw[r,t,rfl];erw[r',t',rfl];exact call_range_2 (range_it I1 q1 q2 q3 q4 q)
noncomputable def tFor (wi:TI)(g:TG)(tb:TS):TS:=λD σ H=>wi σ H λJ H1=>∃W:Nat->Nat->St->Hp->Prop,(∃m,W 0 m σ H1)/\∀i m σ H,W i m σ H->
 (J.stop i H/\D.nx σ H)∨(J.go i H/\∃N:St->Hp->Prop,(∀σ' H',N σ' H'->∃m',m'<m/\W (i+1) m' σ' H')/\∀x H',J.yld i H x H'->g x σ H' λσ2 H2=>tb {D with nx:=N,ct:=N,bk:=D.nx} σ2 H2)
noncomputable def pinsAt (fp:oj o3)(h:o8):oj (o3×Obj):=fp.filterMap λb=>(h.get? b).map λo=>(b,o)
variable {fp:oj o3}
theorem J7 (O:b∈fp)(e:h.get? b=u_ o):(b,o)∈pinsAt fp h:=List.mem_filterMap.mpr ⟨b,O,by rw [e];rfl⟩
theorem of_pinsAt {p:o3×Obj}(O:p∈pinsAt fp h):p.1∈fp/\h.get? p.1=u_ p.2:=by
 erw[List.mem_filterMap.mp O,b,U,e];cases q:h.get? b with
 |none=>rw [q] at e;cases e
 |some o=>
  rw [q] at e;have e':(b,o)=p:=uF e;subst e';exact[U:q]
theorem Inv.pinned (I:Inv X oq σ H s)(hf:∀b∈fp,FpOk X oq H b)(ho:∀b∈fp,∃o,s.heap.get? b=u_ o/\∀v,o.data≠ .cell v):Inv X (oq++pinsAt fp s.heap) σ H s:=
 I.pins_of λp hp=>(Aa.mp hp).elim (λz=>I.pin p (uJ _ z)) λz=>by
  erw[of_pinsAt z,O,e];erw[hf p.1 O,f0,f1,f2,_];erw[ho p.1 O,o,U,d];rw [e] at U;cases U;exact⟨e,f0,f1,f2,d⟩
theorem Inv.unpinned {pl:oj (o3×Obj)}(I:Inv X (oq++pl) σ H s):Inv X oq σ H s:=I.pins_of λp O=>I.pin p (uJ _ (ve _ O))
theorem YV {O:Expr}{ad:oj Stmt}{wi:TI}{g:TG}{tb:TS}{pos:Pos}(hp:PassesOwn #[X,X] X.A X.env X.xe)(hc:X.calm=v_)(hi:PI X tg O wi)(hg:PG X tg g)(U:PSs X ad tb)
  (hs:∀x,tI O X.env x=pure x):PS X (.For tg O ad [] pos) (tFor wi g tb):=by
 intro oq s σ H D I h;refine wpAny_For (thn (hi oq s σ H _ I h) λv s1 h1=>thn h1 λao s2 h2=> ?_) hs;erw[h2,it,fp,tn,J,H2,e,I2,T,ak,f2,W,[m0,w0],af];subst e;have aa:∀{H':Hp},(∀b∈fp,H' b=U_)->∀b∈fp,FpOk X oq H' b:=λhn b U=>[hn b U:(f2 b U).2];refine codeAny_forLoop_any (λn s'=>∃i σ' H',Inv X oq σ' H' s'/\tn i s'.heap/\(∀b∈fp,H' b=U_)/\W i n σ' H') ?_ m0 ⟨(0),σ,H2,I2,ak,λb U=>(f2 b U).1,w0⟩;rintro n s3 ⟨i,σ3,H3,I3,ag,ah,w3⟩;rcases af i n σ3 H3 w3 with⟨stop,qn⟩|⟨go,N,hN,step⟩
 ·refine Ub hp (thn (T.done X rfl rfl rfl hc i oq s3 σ3 H3 X.xe I3 (aa ah) ag stop) λr s4 zq=> ?_);erw[zq,hr,I4];subst hr;exact Hr ⟨σ3,H3,I4,qn⟩
 ·refine Ub hp (thn (T.item X rfl rfl rfl hc i oq s3 σ3 H3 X.xe I3 (aa ah) ag go) λr s4 zq=> ?_);erw[zq,u,hr,h4];subst hr;refine Ub hp (thn h4 λ_ s5 zq=> ?_);erw[zq,x,H5,I5,r5,y5,ae,al];have am:=I5.pinned (aa al) (T.obj _ _ ae);refine Ub hp (thn (hg _ s5 σ3 H5 x u _ am r5 (step x H5 y5)) λ_ s6 zq=> ?_);erw[zq,σ6,H6,I6,q6];refine Ub hp (thn (U _ s6 σ6 H6 _ I6 q6) λf s7 q7=> ?_);have ac:∀{σ7:St}{H7:Hp},Inv X (oq++pinsAt fp s5.heap) σ7 H7 s7->N σ7 H7->∃m,m<n/\∃i σ' H',Inv X oq σ' H' s7/\tn i s7.heap/\(∀b∈fp,H' b=U_)/\W i m σ' H':=λ{σ7 H7} I7 n7=>by
   erw[hN σ7 H7 n7,m',hm,w7];refine⟨m',hm,i+1,σ7,H7,I7.unpinned,T.keep _ _ _ ae λb U o e=>(I7.pin (b,o) (uJ _ (uJ _ (J7 U e)))).1,λb U=> ?_,w7⟩;erw[T.obj _ _ ae b U,o,e,d];exact(I7.pin (b,o) (uJ _ (uJ _ (J7 U e)))).2.1
  cases f with
  |next=>erw[q7,σ7,H7,I7,n7];exact ac I7 n7
  |cont=>erw[q7,σ7,H7,I7,n7];exact ac I7 n7
  |brk=>erw[q7,σ7,H7,I7,q7];exact⟨σ7,H7,I7.unpinned,q7⟩
  |ret v=>erw[q7,x7,σ7,H7,I7,r7,q7];exact⟨x7,σ7,H7,I7.unpinned,r7,q7⟩
end
theorem XS {K:o0}{a:o3}{xs:oj V}{g:TG}{tb:TS}{D:Ends}{σ:St}{H:Hp}(O:Nat->St->Hp->Prop)(h0:O 0 σ H)(hl:∀i σ H,i<=xs.length->O i σ H->SqL K H a xs)
  (hs:∀i x σ H,xs[i]? =u_ x->O i σ H->g x σ H λσ2 H2=>tb {D with nx:=O (i+1),ct:=O (i+1),bk:=D.nx} σ2 H2) (hd:∀σ H,O xs.length σ H->D.nx σ H):
  ∃W:Nat->Nat->St->Hp->Prop,(∃m,W 0 m σ H)/\∀i m σ H,W i m σ H->
   ((Itl K a).stop i H/\D.nx σ H)∨((Itl K a).go i H/\∃N:St->Hp->Prop,(∀σ' H',N σ' H'->∃m',m'<m/\W (i+1) m' σ' H')/\∀x H',(Itl K a).yld i H x H'->g x σ H' λσ2 H2=>tb {D with nx:=N,ct:=N,bk:=D.nx} σ2 H2):=by
 exists λi m σ H=>m=xs.length-i/\i<=xs.length/\O i σ H,⟨xs.length,by simp,uN _,h0⟩
 rintro i m σ H ⟨rfl,hi,p⟩;have q:=hl i σ H hi p;by_cases U:i<xs.length
 ·refine .inr ⟨⟨xs,xs[i],q,by simp [U]⟩,O (i+1),λσ' H' p'=>⟨xs.length-(i+1),(),1,U,p'⟩,λx H' y=> ?_⟩
  erw[y,e,y];subst e;exact hs i x σ _ (y xs q) p
 ·have e:i=xs.length:=by omega
  subst e;exact .inl [[xs:q:uh _]:hd σ H p]
theorem kS {K:o0}{a:o3}{xs:oj V}{g:TG}{tb:TS}{D:Ends}{σ:St}{H:Hp}(O:Nat->St->Hp->Prop)(h0:O 0 σ H)(hl:∀i σ H,i<=xs.length->O i σ H->SqT K H a xs)
  (hs:∀i x σ H,xs[i]? =u_ x->O i σ H->g x σ H λσ2 H2=>tb {D with nx:=O (i+1),ct:=O (i+1),bk:=D.nx} σ2 H2) (hd:∀σ H,O xs.length σ H->D.nx σ H):
  ∃W:Nat->Nat->St->Hp->Prop,(∃m,W 0 m σ H)/\∀i m σ H,W i m σ H->
   ((Itt K a).stop i H/\D.nx σ H)∨((Itt K a).go i H/\∃N:St->Hp->Prop,(∀σ' H',N σ' H'->∃m',m'<m/\W (i+1) m' σ' H')/\∀x H',(Itt K a).yld i H x H'->g x σ H' λσ2 H2=>tb {D with nx:=N,ct:=N,bk:=D.nx} σ2 H2):=by
 exists λi m σ H=>m=xs.length-i/\i<=xs.length/\O i σ H,⟨xs.length,by simp,uN _,h0⟩
 rintro i m σ H ⟨rfl,hi,p⟩;have q:=hl i σ H hi p;by_cases U:i<xs.length
 ·refine .inr ⟨⟨xs,xs[i],q,by simp [U]⟩,O (i+1),λσ' H' p'=>⟨xs.length-(i+1),(),1,U,p'⟩,λx H' y=> ?_⟩
  erw[y,e,y];subst e;exact hs i x σ _ (y xs q) p
 ·have e:i=xs.length:=by omega
  subst e;exact .inl [[xs:q:uh _]:hd σ H p]
theorem for_range {lo:Int}{n:Nat}{g:TG}{tb:TS}{D:Ends}{σ:St}{H:Hp}(O:Nat->St->Hp->Prop)(h0:O 0 σ H)
  (hs:∀i σ H,i<n->O i σ H->g (.int (lo+i)) σ H λσ2 H2=>tb {D with nx:=O (i+1),ct:=O (i+1),bk:=D.nx} σ2 H2) (hd:∀σ H,O n σ H->D.nx σ H):
  ∃W:Nat->Nat->St->Hp->Prop,(∃m,W 0 m σ H)/\∀i m σ H,W i m σ H->
   ((Itr lo n).stop i H/\D.nx σ H)∨((Itr lo n).go i H/\∃N:St->Hp->Prop,(∀σ' H',N σ' H'->∃m',m'<m/\W (i+1) m' σ' H')/\∀x H',(Itr lo n).yld i H x H'->g x σ H' λσ2 H2=>tb {D with nx:=N,ct:=N,bk:=D.nx} σ2 H2):=by
 exists λi m σ H=>m=n-i/\i<=n/\O i σ H,⟨n,by simp,uN _,h0⟩
 rintro i m σ H ⟨rfl,hi,p⟩;by_cases U:i<n
 ·refine .inr ⟨U,O (i+1),λσ' H' p'=>⟨n-(i+1),(),1,U,p'⟩,λx H' y=> ?_⟩
  erw[y,e,y];subst e y;exact hs i σ _ U p
 ·have e:i=n:=by omega
  subst e;exact .inl [uh _:hd σ H p]
noncomputable abbrev R2:=V->V->Hp->VK->Prop
noncomputable def OpR (X:Cx)(f:o6->o6->Sem o6)(r:R2):Prop:=
 ∀(oq:oj (o3×Obj)) (s:o7) (σ:St) (H:Hp) (x y:V) (v u:o6) (Q:VK),Inv X oq σ H s->RelV x v->RelV y u->r x y H Q->
  V8 #[X,X] X.A (f v u) (EP X oq σ Q) X.xe s
noncomputable def UnR (X:Cx)(f:o6->Sem o6)(r:V->Hp->VK->Prop):Prop:=
 ∀(oq:oj (o3×Obj)) (s:o7) (σ:St) (H:Hp) (x:V) (v:o6) (Q:VK),Inv X oq σ H s->RelV x v->r x H Q->
  V8 #[X,X] X.A (f v) (EP X oq σ Q) X.xe s
noncomputable def Ye (X:Cx)(f:o6)(r:oj V->Hp->VK->Prop):Prop:=
 ∀(oq:oj (o3×Obj)) (s:o7) (σ:St) (H:Hp) (xs:oj V) (us:oj o6) (Q:VK),Inv X oq σ H s->Vals xs us->r xs H Q->
  V8 #[X,X] X.A (call f us) (EP X oq σ Q) X.xe s
noncomputable def TruR (X:Cx)(r:V->Hp->(Bool->Hp->Prop)->Prop):Prop:=
 ∀(oq:oj (o3×Obj)) (s:o7) (σ:St) (H:Hp) (x:V) (v:o6) (Q:Bool->Hp->Prop),Inv X oq σ H s->RelV x v->r x H Q->
  V8 #[X,X] X.A (truthy v) (TP X oq σ Q) X.xe s
noncomputable def tOp (r:R2)(ta tb:TE):TE:=λσ H Q=>ta σ H λx H1=>tb σ H1 λy H2=>r x y H2 Q
noncomputable def tUn (r:V->Hp->VK->Prop)(ta:TE):TE:=λσ H Q=>ta σ H λx H1=>r x H1 Q
inductive rI (C:Int->Int->Prop) (g:Int->Int->V) (x:V) (y:V) (H:Hp) (Q:VK):Prop
 |mk (i:_) (j:_) (_:x= .int i) (_:y= .int j) (_:C i j) (_:Q (g i j) H)
inductive rI0 (g:Int->Int->V) (x:V) (y:V) (H:Hp) (Q:VK):Prop
 |mk (i:_) (j:_) (_:x= .int i) (_:y= .int j) (_:Q (g i j) H)
inductive rU (g:Int->V) (x:V) (H:Hp) (Q:VK):Prop
 |mk (i:_) (_:x= .int i) (_:Q (g i) H)
section
variable {X:Cx}{a b c:Expr}{ta tb tc:TE}{pos:Pos}
theorem binT (ha:PE X a ta)(O:PE X b tb){oq:oj (o3×Obj)}{s:o7}{σ:St}{H:Hp}{R:V->V->Hp->Prop}(I:Inv X oq σ H s)
  (h:ta σ H λx H1=>tb σ H1 λy H2=>R x y H2) {Q:o6->o7->Prop}{f:o6->o6->Sem o6}
  (U:∀v u s2 x y H2,Inv X oq σ H2 s2->RelV x v->RelV y u->R x y H2->V8 #[X,X] X.A (f v u) Q X.xe s2):
  V8 #[X,X] X.A (eval a X.env) (λv s₁=>V8 #[X,X] X.A (eval b X.env) (λu s₂=>V8 #[X,X] X.A (f v u) Q X.xe s₂) X.xe s₁) X.xe s:=by
 refine thn (ha oq s σ H _ I h) λv s1 zq=> ?_;erw[zq,x,H1,I1,r1,q1];refine thn (O oq s1 σ H1 _ I1 q1) λu s2 zq=> ?_;erw[zq,y,H2,I2,r2,q2];exact U v u s2 x y H2 I2 r1 r2 q2
theorem qY {O:GW}{r:R2}(U:OpR X (VH O) r)(ha:PE X a ta)(hb:PE X b tb):PE X (.BinOp a O b pos) (tOp r ta tb):=by
 intro oq s σ H Q I h;exact wpAny_BinOp (binT ha hb I h λv u s2 x y H2 I2 rx ry q=>U oq s2 σ H2 x y v u Q I2 rx ry q)
theorem pe_un {O:UnaryOp}{r:V->Hp->VK->Prop}(U:UnR X (unaryOp O) r)(ha:PE X a ta):PE X (.UnaryOp O a pos) (tUn r ta):=by
 intro oq s σ H Q I h;exact UnaryOp_ (thn (ha oq s σ H _ I h) λv s1 ⟨x,H1,I1,r1,q1⟩=>U oq s1 σ H1 x v Q I1 r1 q1)
theorem opI {f:o6->o6->Sem o6}{C:Int->Int->Prop}{g:Int->Int->Int}
  (rule:∀(i j:Int) (t u:Tok) (s:o7) (Q:o6->o7->Prop) (E:o6->o7->Prop),C i j->Q (.int (g i j) s.toks) {s with toks:=s.toks+1}->V8 #[X,X] X.A (f (.int i t) (.int j u)) Q E s):
  OpR X f (rI C λi j=> .int (g i j)):=by
 intro oq s σ H x y v u Q I O U h;erw[h,i,j,rfl,rfl,hc,q];erw[O,t,rfl];erw[U,t',rfl];exact rule i j t t' s _ _ hc ⟨.int (g i j),H,I.tok _,⟨0⟩,q⟩
theorem opI0 {f:o6->o6->Sem o6}{g:Int->Int->Int}
  (rule:∀(i j:Int) (t u:Tok) (s:o7) (Q:o6->o7->Prop) (E:o6->o7->Prop),Q (.int (g i j) s.toks) {s with toks:=s.toks+1}->V8 #[X,X] X.A (f (.int i t) (.int j u)) Q E s):
  OpR X f (rI0 λi j=> .int (g i j)):=by
 intro oq s σ H x y v u Q I O U h;erw[h,i,j,rfl,rfl,q];erw[O,t,rfl];erw[U,t',rfl];exact rule i j t t' s _ _ ⟨.int (g i j),H,I.tok _,⟨0⟩,q⟩
theorem opB0 {f:o6->o6->Sem o6}{g:Int->Int->Bool}
  (rule:∀(i j:Int) (t u:Tok) (s:o7) (Q:o6->o7->Prop) (E:o6->o7->Prop),Q (.bool (g i j)) s->V8 #[X,X] X.A (f (.int i t) (.int j u)) Q E s):
  OpR X f (rI0 λi j=> .bl (g i j)):=by
 intro oq s σ H x y v u Q I O U h;erw[h,i,j,rfl,rfl,q];erw[O,t,rfl];erw[U,t',rfl];exact rule i j t t' s _ _ ⟨.bl (g i j),H,I,1,q⟩
noncomputable def CDiv (i j:Int):Prop:=0<j/\j<1073741824
noncomputable def CPow (i j:Int):Prop:=0<=j/\j<=1000000/\i.natAbs<2^64
noncomputable def CMul (i j:Int):Prop:=(-(2^64)<i/\i<2^64)∨(-(2^64)<j/\j<2^64)
variable {i:Int}
theorem CMul.ok {j:Int}(h:CMul i j):IntMulOk i j:=by
 rcases h with⟨h1,h2⟩|⟨h1,h2⟩
 ·exact .of_left (TN h1 h2)
 ·exact .of_right (TN h1 h2)
theorem yx:OpR X (VH .Add) (rI0 λi j=> .int (i+j)):=opI0 λ_ _ _ _ _ _ _ q=>add_int q
theorem op_sub:OpR X (VH .Sub) (rI0 λi j=> .int (i-j)):=opI0 λ_ _ _ _ _ _ _ q=>sub_int q
theorem op_mul:OpR X (VH .Mult) (rI CMul λi j=> .int (i*j)):=opI λ_ _ _ _ _ _ _ O q=>mul_int q O.ok
theorem op_fdiv:OpR X (VH .FloorDiv) (rI CDiv λi j=> .int (i/j)):=opI λi j _ _ _ _ _ O q=>by
 have h1:(0:Int)<j:=O.1;have h2:j<1073741824:=O.2;exact floordiv_int () (by rwa [Int.fdiv_eq_ediv_of_nonneg i ()]) (.inl (PyProof.noPylong_small ()))
theorem XB:OpR X (VH .Mod) (rI (λ_ j=>0<j) λi j=> .int (i%j)):=opI λi j _ _ _ _ _ O q=>by
 have h1:(0:Int)<j:=O;exact mod_int' () (by rwa [Int.fmod_eq_emod_of_nonneg i ()])
theorem op_pow:OpR X (VH .Pow) (rI CPow λi j=> .int (i^j.toNat)):=opI λ_ _ _ _ _ _ _ O q=>pow_int_small O.1 O.2.1 O.2.2 q
theorem unI {f:o6->Sem o6}{g:Int->Int}
  (rule:∀(i:Int) (t:Tok) (s:o7) (Q:o6->o7->Prop) (E:o6->o7->Prop),Q (.int (g i) s.toks) {s with toks:=s.toks+1}->V8 #[X,X] X.A (f (.int i t)) Q E s):
  UnR X f (rU λi=> .int (g i)):=by
 intro oq s σ H x v Q I O h;erw[h,i,rfl,q];erw[O,t,rfl];exact rule i t s _ _ ⟨.int (g i),H,I.tok _,⟨0⟩,q⟩
theorem un_neg:UnR X (unaryOp .USub) (rU λi=> .int (-i)):=unI λ_ _ _ _ _ q=>neg_int q
noncomputable def scal:V->V->Bool
 | .non,.non=>v_| .non,.int _=>v_| .int _,.non=>v_| .non,.bl _=>v_| .bl _,.non=>v_| .non,.str _=>v_| .str _,.non=>v_
 | .int _,.int _=>v_| .bl _,.bl _=>v_| .str _,.str _=>v_| .byt _,.byt _=>v_
 | .int _,.str _=>v_| .str _,.int _=>v_| .bl _,.str _=>v_| .str _,.bl _=>v_
 |_,_=>V7
noncomputable def rEq:R2:=λx y H Q=>scal x y=v_/\Q (.bl (decide (x=y))) H
noncomputable def rNe:R2:=λx y H Q=>scal x y=v_/\Q (.bl (!decide (x=y))) H
theorem dec_int {j:Int}:decide (V.int i=V.int j)=(i==j):=by
 rw [vD];simp
theorem dec_bl {i j:Bool}:decide (V.bl i=V.bl j)=(i==j):=by
 rw [vD];simp
theorem dec_str {i j:Str}:decide (V.str i=V.str j)=(i==j):=by
 rw [vD];simp
theorem dec_byt {i j:Array UInt8}:decide (V.byt i=V.byt j)=(i.toList==j.toList):=by
 rw [vD];cases i;cases j;simp
variable {Q:VK}
theorem Qh {k O:Bool}(I:Inv X oq σ H s)(q:Q (.bl k) H)(e:k=O):EP X oq σ Q (.bool O) s:=by
 subst e;exact⟨.bl k,H,I,1,q⟩
theorem Qs:OpR X (Vl .Eq) rEq:=by
 intro oq s σ H x y v u Q I rx O h;erw[h,U,q];cases x with
 |non=>
  cases rx;cases y with
  |non=>cases O;exact PySem.EqNone.eq_none_none (Qh I q (by simp))
  |bl j=>cases O;exact PySem.EqNone.eq_none_bool (Qh I q (by simp))
  |int j=>erw[O,t',rfl];exact PySem.EqNone.eq_none_int (Qh I q (by simp))
  |str j=>erw[O,t',rfl];exact PySem.EqNone.eq_none_str (Qh I q (by simp))
  |_=>exact absurd (show V7=v_ from U) u9
 |bl i=>
  cases rx;cases y with
  |non=>cases O;exact PySem.EqNone.eq_bool_none (Qh I q (by simp))
  |bl j=>cases O;exact eq_bool (Qh I q dec_bl)
  |str j=>erw[O,t',rfl];exact PySem.EqMixed.eq_bool_str (Qh I q (by simp))
  |_=>exact absurd (show V7=v_ from U) u9
 |int i=>
  erw[rx,t,rfl];cases y with
  |non=>cases O;exact PySem.EqNone.eq_int_none (Qh I q (by simp))
  |int j=>erw[O,t',rfl];exact eq_int (Qh I q dec_int)
  |str j=>erw[O,t',rfl];exact PySem.EqMixed.eq_int_str (Qh I q (by simp))
  |_=>exact absurd (show V7=v_ from U) u9
 |str i=>
  erw[rx,t,rfl];cases y with
  |non=>cases O;exact PySem.EqNone.eq_str_none (Qh I q (by simp))
  |bl j=>cases O;exact PySem.EqMixed.eq_str_bool (Qh I q (by simp))
  |int j=>erw[O,t',rfl];exact PySem.EqMixed.eq_str_int (Qh I q (by simp))
  |str j=>erw[O,t',rfl];exact eq_str (Qh I q dec_str)
  |_=>exact absurd (show V7=v_ from U) u9
 |byt i=>
  erw[rx,t,rfl];cases y with
  |byt j=>erw[O,t',rfl];exact PySem.W.eq_bytes (Qh I q dec_byt)
  |_=>exact absurd (show V7=v_ from U) u9
 |_=>cases y<;>exact absurd (show V7=v_ from U) u9
theorem op_ne:OpR X (Vl .NotEq) rNe:=by
 intro oq s σ H x y v u Q I rx O h;erw[h,U,q];cases x with
 |non=>
  cases rx;cases y with
  |non=>cases O;exact PySem.EqNone.ne_none_none (Qh I q (by simp))
  |bl j=>cases O;exact PySem.EqNone.ne_none_bool (Qh I q (by simp))
  |int j=>erw[O,t',rfl];exact PySem.EqNone.ne_none_int (Qh I q (by simp))
  |str j=>erw[O,t',rfl];exact PySem.EqNone.ne_none_str (Qh I q (by simp))
  |_=>exact absurd (show V7=v_ from U) u9
 |bl i=>
  cases rx;cases y with
  |non=>cases O;exact PySem.EqNone.ne_bool_none (Qh I q (by simp))
  |bl j=>cases O;exact ne_bool (Qh I q (congrArg not dec_bl))
  |str j=>erw[O,t',rfl];exact PySem.EqMixed.ne_bool_str (Qh I q (by simp))
  |_=>exact absurd (show V7=v_ from U) u9
 |int i=>
  erw[rx,t,rfl];cases y with
  |non=>cases O;exact PySem.EqNone.ne_int_none (Qh I q (by simp))
  |int j=>erw[O,t',rfl];exact ne_int (Qh I q (congrArg not dec_int))
  |str j=>erw[O,t',rfl];exact PySem.EqMixed.ne_int_str (Qh I q (by simp))
  |_=>exact absurd (show V7=v_ from U) u9
 |str i=>
  erw[rx,t,rfl];cases y with
  |non=>cases O;exact PySem.EqNone.ne_str_none (Qh I q (by simp))
  |bl j=>cases O;exact PySem.EqMixed.ne_str_bool (Qh I q (by simp))
  |int j=>erw[O,t',rfl];exact PySem.EqMixed.ne_str_int (Qh I q (by simp))
  |str j=>erw[O,t',rfl];exact ne_str (Qh I q (congrArg not dec_str))
  |_=>exact absurd (show V7=v_ from U) u9
 |byt i=>
  erw[rx,t,rfl];cases y with
  |byt j=>erw[O,t',rfl];exact PySem.W.ne_bytes (Qh I q (congrArg not dec_byt))
  |_=>exact absurd (show V7=v_ from U) u9
 |_=>cases y<;>exact absurd (show V7=v_ from U) u9
theorem op_lt:OpR X (Vl .Lt) (rI0 λi j=> .bl (decide (i<j))):=opB0 λ_ _ _ _ _ _ _ q=>lt_int q
theorem op_le:OpR X (Vl .LtE) (rI0 λi j=> .bl (decide (i<=j))):=opB0 λ_ _ _ _ _ _ _ q=>le_int q
theorem op_gt:OpR X (Vl .Gt) (rI0 λi j=> .bl (decide (j<i))):=opB0 λ_ _ _ _ _ _ _ q=>gt_int q
theorem op_ge:OpR X (Vl .GtE) (rI0 λi j=> .bl (decide (j<=i))):=opB0 λ_ _ _ _ _ _ _ q=>ge_int q
theorem op_lt_str:OpR X (Vl .Lt) (λx y H Q=>∃i j,x= .str i/\y= .str j/\Q (.bl (decide (i.cps.toList<j.cps.toList))) H):=by
 intro oq s σ H x y v u Q I O U h;erw[h,i,j,rfl,rfl,q];erw[O,t,rfl];erw[U,t',rfl];exact lt_str (Qh I q rfl)
theorem op_in_str:OpR X (Vl .In) (λx y H Q=>∃i j,x= .str i/\y= .str j/\Q (.bl (!(GR j i 0 j.length 1).isEmpty)) H):=by
 intro oq s σ H x y v u Q I O U h;erw[h,i,j,rfl,rfl,q];erw[O,t,rfl];erw[U,t',rfl];exact in_str (Qh I q rfl)
theorem Ym:OpR X (Vl .Is) (λx y H Q=>y= .non/\Q (.bl (decide (x= .non))) H):=by
 intro oq s σ H x y v u Q I O U h;erw[h,rfl,q];cases U;refine is_none_gen (Qh I q ?_);cases x<;>first
  |(cases O;rfl)
  |(erw[O,t,rfl];rfl)
theorem op_notN:OpR X (Vl .IsNot) (λx y H Q=>y= .non/\Q (.bl (!decide (x= .non))) H):=by
 intro oq s σ H x y v u Q I O U h;erw[h,rfl,q];cases U;refine isnot_none_gen (Qh I q ?_);cases x<;>first
  |(cases O;rfl)
  |(erw[O,t,rfl];rfl)
theorem qz (b:Expr){O:Gn}(h:O≠ .In:=by decide)(h2:O≠ .NotIn:=by decide):Gy O b=false:=by
 have U:(O==CmpOp.In)=false:=by cases O<;>first|rfl|exact absurd rfl h
 have e2:(O==CmpOp.NotIn)=false:=by cases O<;>first|rfl|exact absurd rfl h2
 cases b<;>simp [Gy,U,e2]
theorem YA {O:Gn}{r:R2}(U:OpR X (Vl O) r)(ha:PE X a ta)(hb:PE X b tb)(hm:Gy O b=V7):PE X (.Compare a [O] [b] pos) (tOp r ta tb):=by
 intro oq s σ H Q I h;exact rW (binT ha hb I h λv u s2 x y H2 I2 rx ry q=>U oq s2 σ H2 x y v u Q I2 rx ry q) hm
inductive ItTest (Q:(Bool->Hp->Prop)) (x:V) (H':Hp):Prop
 |mk (k:_) (_:x= .bl k) (_:Q k H')
noncomputable def tTest (t:TE):TT:=λσ H Q=>t σ H λx H'=>ItTest Q x H'
theorem qq {O:Gn}{r:R2}(U:OpR X (Vl O) r)(ha:PE X a ta)(hb:PE X b tb)(hm:Gy O b=V7):PT X (.Compare a [O] [b] pos) (tTest (tOp r ta tb)):=by
 intro oq s σ H Q I h;refine Fm (thn (ha oq s σ H _ I h) λv s1 ⟨x,H1,I1,r1,q1⟩=>thn (hb oq s1 σ H1 _ I1 q1) λu s2 ⟨y,H2,I2,r2,q2⟩=>
  thn (U oq s2 σ H2 x y v u _ I2 r1 r2 q2) λc s3 ⟨z,H3,I3,r3,k,e,q3⟩=> ?_) hm
 subst e;cases r3;exact vB [H3:I3:q3]
noncomputable def tChain (r r':R2)(ta tb tc:TE):TE:=λσ H Q=>ta σ H λx H1=>tb σ H1 λy H2=>r x y H2 λz H3=>∃k,z= .bl k/\
 (if k=v_ then tc σ H3 λw' H4=>r' y w' H4 Q else Q (.bl V7) H3)
theorem pt_chain {U O:Gn}{r r':R2}(ho:OpR X (Vl U) r)(aa:OpR X (Vl O) r')(ha:PE X a ta)(hb:PE X b tb)(hc:PE X c tc)
  (hm:lastMarks [U,O] [b,c]=V7):PT X (.Compare a [U,O] [b,c] pos) (tTest (tChain r r' ta tb tc)):=by
 intro oq s σ H Q I h;refine isTrue_chain (thn (ha oq s σ H _ I h) λv s1 ⟨x,H1,I1,r1,q1⟩=>test_link (thn (hb oq s1 σ H1 _ I1 q1) λu s2 ⟨y,H2,I2,r2,q2⟩=>
  thn (ho oq s2 σ H2 x y v u _ I2 r1 r2 q2) λd s3 ⟨z,H3,I3,r3,k,e,q3⟩=> ?_)) hm
 subst e;cases r3;refine vB ?_;cases k with
 |false=>
  erw[q3,k',e',q'];cases e';exact ite_ff [H3:I3:q']
 |true=>
  refine ite_tt (test_last (thn (hc oq s3 σ H3 _ I3 q3) λw' s4 ⟨z',H4,I4,r4,q4⟩=>thn (aa oq s4 σ H4 y z' u w' _ I4 r2 r4 q4) λd' s5 zq=> ?_));erw[zq,z2,H5,I5,r5,k2,e2,q5];subst e2;cases r5;exact vB [H5:I5:q5]
noncomputable def TruV (K:o0)(x:V)(H:Hp)(k:Bool):Prop:=
 match x with
 | .non=>k=V7
 | .bl b=>k=b
 | .int i=>k=(i !=0)
 | .str y=>y.length<=Vb/\k=((y.length:Int) !=0)
 | .byt y=>y.size<=Vb/\k=((y.size:Int) !=0)
 | .ref p=>(∃xs,SqL K H p xs/\k= !xs.isEmpty)∨(∃xs,SqT K H p xs/\k= !xs.isEmpty)∨∃kvs,H p=u_ (.dK kvs)/\k= !kvs.isEmpty
 |_=>False
theorem isEmpty_kv {κ:Type}{kvs:oj (κ×V)}{vs:oj (κ×o6)}(r:KV kvs vs):(!vs.isEmpty)= !kvs.isEmpty:=by
 cases r<;>rfl
variable {its:oj o6}
theorem WY (r:Vals xs its):(!its.toArray.isEmpty)= !xs.isEmpty:=by
 cases r<;>simp
theorem Zh:(Vb:Nat)<2^63:=by rw [uB];decide
theorem tru_ok:TruR X (λx H Q=>∃k,TruV X.K x H k/\Q k H):=by
 intro oq s σ H x v Q I rx h;erw[h,k,e,q];have hl:=Zh;have hs:Vb=16777216:=uB;cases x with
 |non=>
  cases rx;have O:k=false:=e;subst O;exact truthy_none [H:I:q]
 |bl b=>
  cases rx;have O:k=b:=e;subst O;exact vB [H:I:q]
 |int i=>
  erw[rx,t,rfl];have O:k=(i !=0):=e;subst O;exact PySem.P.truthy_int [H:I:q]
 |str y=>
  erw[rx,t,rfl];obtain⟨hy,O⟩:y.length<=Vb/\k=((y.length:Int) !=0):=e;subst O;exact PySem.P.truthy_str () [H:I.tok _:q]
 |byt y=>
  erw[rx,t,rfl];obtain⟨hy,O⟩:y.size<=Vb/\k=((y.size:Int) !=0):=e;subst O;exact PySem.W.truthy_bytes () [H:I.tok _:q]
 |ref p=>
  cases rx;have O:(∃xs,SqL X.K H p xs/\k= !xs.isEmpty)∨(∃xs,SqT X.K H p xs/\k= !xs.isEmpty)∨∃kvs,H p=u_ (.dK kvs)/\k= !kvs.isEmpty:=e;rcases O with⟨xs,hx,O⟩|⟨xs,hx,O⟩|⟨kvs,hx,O⟩
  ·subst O;erw[I.list hx,its,r,pl,hz];have U:=r.length;exact wpAny_truthy_list pl.isList (by simp only [uj];omega) ⟨H,I.tok _,by rwa [WY r]⟩
  ·subst O;erw[I.tuple hx,its,r,pl,hz];have U:=r.length;exact truthy_tuple pl (by simp only [uj];omega) ⟨H,I.tok _,by rwa [WY r]⟩
  ·subst O;obtain⟨hz,hS,vs,r,m⟩:kvs.length<=Vb/\(p==Vu)=V7/\∃vs,KV kvs vs/\s.heap.DictOf (Qa X.prog X.w) p vs:=I.hok p _ hx;have U:kvs.length=vs.length:=Paired.length r;exact wpAny_truthy_dict hS m () ⟨H,I.tok _,by rwa [isEmpty_kv r]⟩
 |_=>exact(show False from e).elim
theorem pt_truth (ha:PE X a ta)(U:∀O,isTrue a X.env O=(do let v<-O;GT a.pos;gV [v] (truthy v))):
  PT X a (λσ H Q=>ta σ H λx H'=>∃k,TruV X.K x H' k/\Q k H'):=by
 intro oq s σ H Q I h;exact Fn (thn (ha oq s σ H _ I h) λv s1 ⟨x,H1,I1,r1,q1⟩=>tru_ok oq s1 σ H1 x v Q I1 r1 q1) (U _)
theorem Qf:OpR X (VH .Add) (λx y H Q=>∃i j,x= .str i/\y= .str j/\i.length+j.length<=Vb/\Q (.str (i++j)) H):=by
 intro oq s σ H x y v u Q I O U h;erw[h,i,j,rfl,rfl,hz,q];erw[O,t,rfl];erw[U,t',rfl];exact uS (n:=1) I.tk (add_str (λt' tk htk=>⟨.str (i++j),H,I.tok _,⟨0⟩,q⟩) hz)
theorem jH {x:V}(r:Vals [x] us):∃u,us= [u]/\RelV x u:=by
 cases r with
 |cons O U=>cases U;exact[0:O]
theorem vals2 {x:V}(r:Vals [x,y] us):∃u O,us= [u,O]/\RelV x u/\RelV y O:=by
 cases r with
 |cons U r2=>
  cases r2 with
  |cons r3 r4=>cases r4;exact⟨_,0,U,r3⟩
theorem call_abs:Ye X (.builtin "abs") (λxs H Q=>∃i,xs= [.int i]/\Q (.int (if i<0 then-i else i)) H):=by
 intro oq s σ H xs us Q I r h;erw[h,i,rfl,q];erw[jH r,u,rfl,t,rfl];exact uS (n:=1) I.tk (call_abs_int λu tk htk=>⟨.int (if i<0 then-i else i),H,I.tok _,⟨0⟩,q⟩)
theorem call_max2 (U:X.calm=v_):Ye X (.builtin "max") (λxs H Q=>∃i j,xs= [.int i,.int j]/\Q (.int (if j>i then j else i)) H):=by
 intro oq s σ H xs us Q I r h;erw[h,i,j,rfl,q];erw[vals2 r,u,w',rfl,[t,rfl],[t',rfl]];refine uS (n:=1) I.tk (max_two_ints (I.ok.hd U) λh' tk k htk=>⟨_,H,I.kept k,?_,q⟩);by_cases O:j>i
 ·rw [A5 O,A5 O];exact⟨0⟩
 ·rw [A4 O,A4 O];exact⟨0⟩
theorem call_min2 (U:X.calm=v_):Ye X (.builtin "min") (λxs H Q=>∃i j,xs= [.int i,.int j]/\Q (.int (if j<i then j else i)) H):=by
 intro oq s σ H xs us Q I r h;erw[h,i,j,rfl,q];erw[vals2 r,u,w',rfl,[t,rfl],[t',rfl]];refine uS (n:=1) I.tk (min_two_ints (I.ok.hd U) λh' tk k htk=>⟨_,H,I.kept k,?_,q⟩);by_cases O:j<i
 ·rw [A5 O,A5 O];exact⟨0⟩
 ·rw [A4 O,A4 O];exact⟨0⟩
theorem call_int1:Ye X (.type "int") (λxs H Q=>(∃i,xs= [.int i]/\Q (.int i) H)∨∃k,xs= [.bl k]/\Q (.int (if k then 1 else 0)) H):=by
 intro oq s σ H xs us Q I r h;rcases h with⟨i,rfl,q⟩|⟨k,rfl,q⟩
 ·erw[jH r,u,rfl,t,rfl];exact call_int_int ⟨.int i,H,I,⟨0⟩,q⟩
 ·erw[jH r,u,rfl,O];cases O;exact call_int_bool ⟨.int (if k then 1 else 0),H,I.tok _,⟨0⟩,q⟩
theorem Y1:Ye X (.type "str") (λxs H Q=>∃i,xs= [.int i]/\i.natAbs.log2<1920/\Q (.str (Vh i)) H):=by
 intro oq s σ H xs us Q I r h;erw[h,i,rfl,O,q];erw[jH r,u,rfl,t,rfl];exact PySem.P.str_of_int O ⟨.str _,H,I.tok _,⟨0⟩,q⟩
theorem call_ord:Ye X (.builtin "ord") (λxs H Q=>∃x,xs= [.str x]/\x.length=1/\Q (.int (x.cps.getD 0 0:Nat)) H):=by
 intro oq s σ H xs us Q I r h;erw[h,x,rfl,O,q];erw[jH r,u,rfl,t,rfl];exact ord_of_one O ⟨.int _,H,I.tok _,⟨0⟩,q⟩
noncomputable def LenV (K:o0)(x:V)(H:Hp)(n:Nat):Prop:=
 match x with
 | .str y=>y.length<=Vb/\n=y.length
 | .byt y=>y.size<=Vb/\n=y.size
 | .ref p=>(∃xs,SqL K H p xs/\n=xs.length)∨∃xs,SqT K H p xs/\n=xs.length
 |_=>False
theorem kK:Ye X (.builtin "len") (λxs H Q=>∃x n,xs= [x]/\LenV X.K x H n/\Q (.int n) H):=by
 intro oq s σ H xs us Q I r h;erw[h,x,n,rfl,e,q];erw[jH r,u,rfl,rx];have hl:=Zh;have hs:Vb=16777216:=uB;cases x with
 |str y=>
  erw[rx,t,rfl];obtain⟨hy,U⟩:y.length<=Vb/\n=y.length:=e;subst U;exact len_str () ⟨.int _,H,I.tok _,⟨0⟩,q⟩
 |byt y=>
  erw[rx,t,rfl];obtain⟨hy,U⟩:y.size<=Vb/\n=y.size:=e;subst U;exact PySem.W.len_bytes () ⟨.int _,H,I.tok _,⟨0⟩,q⟩
 |ref p=>
  cases rx;have U:(∃xs,SqL X.K H p xs/\n=xs.length)∨∃xs,SqT X.K H p xs/\n=xs.length:=e;rcases U with⟨xs,hx,U⟩|⟨xs,hx,U⟩
  ·subst U;erw[I.list hx,its,r',pl,hz];have O:=r'.length;exact Ru pl.isList (by simp only [uj];omega) ⟨.int xs.length,H,I.tok _,⟨_,by simp only [uj];rw [O]⟩,q⟩
  ·subst U;erw[I.tuple hx,its,r',pl,hz];have O:=r'.length;exact len_tuple pl (by simp only [uj];omega) ⟨.int xs.length,H,I.tok _,⟨_,by simp only [uj];rw [O]⟩,q⟩
 |_=>exact(show False from e).elim
end
structure ObjM (h:o8)(x dx C:o3)(mA:Str->om o6):Prop where
 obj:h.get? x=u_ (PySem.W.instObj C dx)
 ns:h.Ns1 dx mA
 ne:dx≠x
variable {dx:o3}
theorem lookIn_ns {mA:Str->om o6}(n:h.Ns1 dx mA):∃od,h.get? dx=u_ od/\∀name,PySem.W.lookIn name od=u_ (mA name):=by
 erw[n,o,es,ep,U,hd,hk,_,hm];refine[o:U:λname=> ?_];have e:=hm name;unfold nsFind findBy at e;rw [<-Array.find?_toList] at e;unfold PySem.W.lookIn;rw [hd];dsimp only;split
 ·rename_i y q
  rw [q] at e;exact congrArg u_ e
 ·rename_i q
  rw [q] at e;have a:es.toList.any (·.refKey)=false:=by
   rw [HV];intro y hy;erw[hk y (Array.mem_toList_iff.mp hy),z,t,O];simp [Fb,O]
  have a':¬es.toList.any (·.refKey)=true:=by rw [a];exact u9
  rw [A4 a'];exact congrArg u_ e
variable {C:o3}
theorem ObjM.look {x:o3}{mA:Str->om o6}(I:ObjM h x dx C mA):∃od,PySem.W.InstAt h x (PySem.W.instObj C dx) C (u_ od)/\∀name,PySem.W.lookIn name od=u_ (mA name):=
 let⟨od,ho,hl⟩:=lookIn_ns I.ns
 [od:⟨I.obj,1,1,ho⟩:hl]
section
variable {prog:o9}{w:og}{A:oh}{E:o6->o7->Prop}{s:o7}{K:o0}{x dx C f:o3}{mA:Str->om o6}{name:Str}{v:o6}
theorem get_map {O:Bool}{Q:o6->o7->Prop}(X:K.In s.heap)(I:ObjM s.heap x dx C mA)(hg:PySem.W.plainGet K C name=v_)(hh:PySem.W.hasDictIn K C=v_)
  (ha:PySem.W.findIn K (.ref C) name=u_ U_) (hv:mA name=u_ v) (U:PySem.W.handedIn v=v_) (h:Q v {s with toks:=s.toks+1}):
  V8 #[w,w] A (Tp (.ref x) name O) Q E s:=by
 erw[I.look,od,J,hl];exact PySem.W.get_value X J (PySem.W.plainGet_of hg).1 (PySem.W.findObj_own hh ha rfl (by rw [hl,hv])) U h
theorem get_meth {pl:Sem Bool}{Q:o6×oj o6->o7->Prop}(X:K.In s.heap)(I:ObjM s.heap x dx C mA)(O:PySem.W.plainGet K C name=v_)
  (U:PySem.W.findIn K (.ref C) name=u_ (u_ (.ref f))) (ht:PySem.W.isFn K (.ref f)=v_) (hv:mA name=U_) (h:Q (.ref f,[.ref x]) s):
  V8 #[w,w] A (Hh (.ref x) name pl) Q E s:=by
 erw[I.look,od,J,hl];exact PySem.W.method_fn X J (PySem.W.plainGet_of O).1 (PySem.W.plainGet_of O).2 U (beq_iff_eq.mp ht) (by show(PySem.W.lookIn name od).map (·.isSome)=u_ V7;rw [hl,hv];rfl) h
theorem set_map {ns:oj Str}{Q:Unit->o7->Prop}(X:K.In s.heap)(I:ObjM s.heap x dx C mA)
  (hs:PySem.W.findIn K (.ref C) "__setattr__"=u_ (u_ (.builtin "object.__setattr__"))) (hp:PySem.W.plainOver K C=v_) (ht:PySem.W.takerIn K C name=u_ U_) (hh:PySem.W.hasDictIn K C=v_)
  (hw:PySem.Within mA ns) (hsz:ns.length<=Vb)
  (h:∀h',ObjM h' x dx C (λy=>if y=name then u_ v else mA y)->GN dx s.heap h'->Q GH {s with heap:=h',toks:=s.toks+2}):
  V8 #[w,w] A (setAttr (.ref x) name v) Q E s:=by
 erw[I.look,od,J,hl];refine PySem.W.set_plain X J hs (PySem.W.osa_open (s:={s with toks:=s.toks+1}) (r:=U_) X J hp ht λb=> ?_)
 erw[PySem.W.any_some hh,cd,hc,aa];have hx:s.heap.get? x=u_ ⟨.ref C,u_ dx,.plain,#[]⟩:=I.obj;refine A6 (uw (A6 (A6 (wpAny_loadPart hx (A6 (PySem.W.Looks.here (s:={s with toks:=s.toks+1}) (PySem.W.looks_clsIn X hc) ?_))))))
 rw [aa];refine uw (a:=u_ dx) (A6 (uw (A6 ?_)));refine wpAny_nsSet1 (s:={s with toks:=s.toks+1}) I.ns λh' O U=> ?_
 erw[O.count (PySem.Within.cons name v hw),oD,af,ag,ac,ad,ae];refine A6 (wpAny_lookBehind ac (by rw [ad];exact pastItsLine_dict (uI ae (by rw [ui];omega))) ?_)
 exact uw (h _ [(U.2 _ (Uv I.ne)).trans I.obj:O:I.ne] U)
theorem make_map {R:gX->o7->Prop}{vs:oj o6}{O:oj (Str×o6)}(X:K.In s.heap)(hm:PySem.W.makesIn K C=v_)
  (hi:PySem.W.findIn K (.ref C) "__init__"=u_ (u_ (.ref f))) (U:PySem.W.typeIn K (.ref f)=u_ (.type "function"))
  (h:VD #[w,w] (A.under (.builtin "type.__call__" [.ref C::vs:O])) (.call (.ref f) [.ref (s.heap.objs.size+1)::vs:O]) (PySem.W.InitBack (s.heap.objs.size+1) R)
   {s with heap:=(s.heap.push PySem.W.emptyDict).push (PySem.W.instObj C s.heap.objs.size)}):
  VD #[w,w] A (.call (.ref C) [vs:O]) R s:=by
 erw[s,hh,g,d,t,os];exact PySem.W.make_core (PySem.W.makes_of X hm) (PySem.W.looks_findIn X hi) (λself=>PySem.W.bind_fn X self U) (.inl rfl) h
end
noncomputable def putF (f:Str)(v:V):oj (Str×V)->oj (Str×V)
 | []=> [(f,v)]
 |(g,x)::r=>if g=f then(g,v)::r else(g,x)::putF f v r
theorem qJ (f g:Str)(v:V):∀fs:oj (Str×V),(putF f v fs).lookup g=if g=f then u_ v else fs.lookup g
 | []=>by
  show Vx g [(f,v)]=_;by_cases h:g=f
  ·have O:(g==f)=true:=beq_iff_eq.mpr h;simp only [Vx,O,A5 h]
  ·have O:(g==f)=false:=beq_eq_false_iff_ne.mpr h;simp only [Vx,O,A4 h]
 |(k,x)::r=>by
  have ih:=qJ f g v r;rw [show putF f v ((k,x)::r)=(if k=f then(k,v)::r else(k,x)::putF f v r) from rfl]
  by_cases U:k=f
  ·rw [A5 U];by_cases h:g=k
   ·have O:(g==k)=true:=beq_iff_eq.mpr h;simp only [Vx,O,A5 (h.trans U)]
   ·have O:(g==k)=false:=beq_eq_false_iff_ne.mpr h;simp only [Vx,O,A4 (λe:g=f=>h (e.trans U.symm))]
  ·rw [A4 U];by_cases h:g=k
   ·have O:(g==k)=true:=beq_iff_eq.mpr h;simp only [Vx,O,A4 (λe:g=f=>U (h.symm.trans e))]
   ·have O:(g==k)=false:=beq_eq_false_iff_ne.mpr h;simp only [Vx,O];exact ih
theorem wM (f:Str)(v:V):∀fs:oj (Str×V),f∈(putF f v fs).map (·.1)/\∀g,g∈fs.map (·.1)->g∈(putF f v fs).map (·.1)
 | []=>⟨by simp [putF],λg h=>by simp at h⟩
 |(k,x)::r=>by
  erw[wM f v r,U,i2];rw [show putF f v ((k,x)::r)=(if k=f then(k,v)::r else(k,x)::putF f v r) from rfl]
  by_cases O:k=f
  ·rw [A5 O];subst O;exact⟨by simp,λg h=>by simpa using h⟩
  ·rw [A4 O];refine[?_:λg h=> ?_]
   ·rw [uq];exact ue _ U
   ·rw [uq] at h⊢;rcases A8.mp h with e|e
    ·exact A8.mpr (.inl e)
    ·exact ue _ (i2 g e)
theorem ZD (f:Str)(v:V):∀fs:oj (Str×V),(putF f v fs).length<=fs.length+1
 | []=>by simp [putF]
 |(k,x)::r=>by
  have U:=ZD f v r;rw [show putF f v ((k,x)::r)=(if k=f then(k,v)::r else(k,x)::putF f v r) from rfl]
  by_cases O:k=f
  ·rw [A5 O,ui,ui];omega
  ·rw [A4 O,ui,ui];omega
variable {v:V}
theorem RelO.some_of {o:om o6}(r:RelO (u_ v) o):∃u,o=u_ u/\RelV v u:=by
 cases o with
 |none=>exact(show False from r).elim
 |some u=>exact[u:1:r]
theorem RelO.none_of {o:om o6}(r:RelO U_ o):o=none:=by
 cases o with
 |none=>rfl
 |some u=>exact(show False from r).elim
theorem handed_of (r:RelV v u):PySem.W.handedIn u=true:=by
 cases v with
 |non=>cases(show u=VP from r);rfl
 |bl b=>cases(show u=HA b from r);rfl
 |int i=>obtain⟨t,e⟩:=(show∃t,u=gU i t from r);cases e;rfl
 |str x=>obtain⟨t,e⟩:=(show∃t,u=VC x t from r);cases e;rfl
 |byt b=>obtain⟨t,e⟩:=(show∃t,u=FN b t from r);cases e;rfl
 |flt b=>obtain⟨t,e⟩:=(show∃t,u=T4 b t from r);cases e;rfl
 |ref a=>cases(show u=Ve a from r);rfl
 |ty n=>cases(show u=G6 n from r);rfl
section
variable {P:o9}{w:og}{H H':Hp}{h h':o8}{a C dx:o3}{fs fs':oj (Str×V)}
theorem kE (hok:HOk P w H h)(e:H a=u_ (.ins C dx fs)):∃mA,ObjM h a dx C mA/\(∀f,RelO (fs.lookup f) (mA f))/\PySem.Within mA (fs.map (·.1))/\fs.length<=1000/\H dx=u_ (.own a):=by
 obtain⟨d,z,ne,ob,mA,n,r,q⟩:=(show yr P w H h a (.ins C dx fs) from hok a _ e)
 exact⟨mA,[ob:n:ne],r,q,z,d⟩
end
structure Cls (K:o0)(C:o3):Prop where
 pg:PySem.W.plainGet K C T9=v_
 hd:PySem.W.hasDictIn K C=v_
 po:PySem.W.plainOver K C=v_
 sa:PySem.W.findIn K (.ref C) "__setattr__"=u_ (u_ (.builtin "object.__setattr__"))
theorem Cls.get (c:Cls K C)(f:Str):PySem.W.plainGet K C f=true:=c.pg
noncomputable def QG (K:o0)(C:o3)(f:Str):Prop:=PySem.W.findIn K (.ref C) f=u_ U_
theorem QG.taker {f:Str}(n:QG K C f):PySem.W.takerIn K C f=u_ none:=by
 unfold PySem.W.takerIn;rw [show PySem.W.findIn K (.ref C) f=u_ U_ from n]
 rfl
structure Meth (K:o0)(C:o3)(m:Str)(f:o3):Prop where
 at_:PySem.W.findIn K (.ref C) m=u_ (u_ (.ref f))
 fn:PySem.W.isFn K (.ref f)=v_
 kp:PySem.W.keepIn K (.ref f)=v_
section
variable {X:Cx}{oq:oj (o3×Obj)}{σ:St}{H:Hp}{s:o7}{a C dx:o3}{fs:oj (Str×V)}{f:Str}{v:V}{A:oh}{E:o6->o7->Prop}
theorem W8 {b:Bool}{Q:o6->o7->Prop}(I:Inv X oq σ H s)(e:H a=u_ (.ins C dx fs))(c:Cls X.K C)(n:QG X.K C f)(l:fs.lookup f=u_ v)
  (h:∀u s',Inv X oq σ H s'->RelV v u->Q u s'):V8 #[X,X] A (Tp (.ref a) f b) Q E s:=by
 erw[kE I.hok e,mA,O,r,_,_,_];obtain⟨u,U,ru⟩:=RelO.some_of (v:=v) (o:=mA f) (by rw [<-l];exact r f)
 exact get_map I.kIn O (c.get f) c.hd n U (handed_of ru) (h u _ (I.tok _) ru)
theorem WS {m:Str}{g:o3}{pl:Sem Bool}{Q:o6×oj o6->o7->Prop}(I:Inv X oq σ H s)(e:H a=u_ (.ins C dx fs))(c:Cls X.K C)(k:Meth X.K C m g)(l:fs.lookup m=U_)
  (h:Q (.ref g,[.ref a]) s):V8 #[X,X] A (Hh (.ref a) m pl) Q E s:=by
 erw[kE I.hok e,mA,O,r,_,_,_];have hn:mA m=none:=RelO.none_of (by rw [<-l];exact r m)
 exact get_meth I.kIn O (c.get m) k.at_ k.fn hn h
theorem W5 {y:V}{u:o6}{Q:Unit->o7->Prop}(I:Inv X oq σ H s)(e:H a=u_ (.ins C dx fs))(c:Cls X.K C)(n:QG X.K C f)(hl:fs.length<1000)(ry:RelV y u)
  (h:∀s',Inv X oq σ (upd H a (.ins C dx (putF f y fs))) s'->Q GH s'):V8 #[X,X] A (setAttr (.ref a) f u) Q E s:=by
 erw[kE I.hok e,mA,O,r,wi,_,ho];have hz:(fs.map (·.1)).length<=sizeLine:=by rw [ua,uB];omega
 refine set_map I.kIn O c.sa c.po n.taker c.hd wi hz λh' U sb=>h _ ?_;have hd:∃o,h'.get? dx=u_ o:=let⟨o,_,_,e',_⟩:=U.ns;[o:e'];refine I.write (x:=a) (e:=dx) (by rw [e];exact VG) (.inr ho) (λb q hb z=>(sb.2 b hb).trans z) hd ?_
 refine⟨by rwa [qi O.ne],?_,O.ne,U.obj,_,U.ns,λg=> ?_,λg hg=> ?_⟩
 ·have:=ZD f y fs;omega
 ·show RelO ((putF f y fs).lookup g) (if g=f then u_ u else mA g)
  rw [qJ];by_cases q:g=f
  ·rwa [A5 q,A5 q]
  ·rw [A4 q,A4 q];exact r g
 ·by_cases q:g=f
  ·rw [q];exact(wM f y fs).1
  ·refine(wM f y fs).2 g (wi g λz=>hg ?_);show(if g=f then u_ u else mA g)=U_
   rw [A4 q];exact z
theorem Inv.made (I:Inv X oq σ H s):Inv X oq σ (upd (upd H s.heap.objs.size (.own (s.heap.objs.size+1))) (s.heap.objs.size+1) (.ins C s.heap.objs.size []))
  {s with heap:=(s.heap.push PySem.W.emptyDict).push (PySem.W.instObj C s.heap.objs.size)}:=by
 have O:(s.heap.push PySem.W.emptyDict).get? s.heap.objs.size=u_ PySem.W.emptyDict:=uC s.heap rfl;have U:((s.heap.push PySem.W.emptyDict).push (PySem.W.instObj C s.heap.objs.size)).get? (s.heap.objs.size+1)=u_ (PySem.W.instObj C s.heap.objs.size):=by
  have:=uC (s.heap.push PySem.W.emptyDict) (o:=PySem.W.instObj C s.heap.objs.size) rfl
  rwa [vt] at this
 have e3:(s.heap.push PySem.W.emptyDict).Ns s.heap.objs.size (λ_=>U_):=⟨PySem.W.emptyDict,#[],_,O,1,(λe he=>absurd he (by simp)),λ_=>rfl⟩
 have I1:=I.laid (a:=s.heap.objs.size) (o:= .own (s.heap.objs.size+1)) (h':=s.heap.push PySem.W.emptyDict) (t':=s.toks) (λb u q=>ud _ q) (uh _) [_:O];refine I1.laid (a:=s.heap.objs.size+1) (o:= .ins C s.heap.objs.size []) (t':=s.toks) (λb u q=>ud _ q) (Rq (vt _ _)) ?_;have ne:s.heap.objs.size≠s.heap.objs.size+1:=uL (V0 _);refine⟨by rw [qi ne,qh],uN _,ne,U,λ_=>U_,(pF e3).at λo q=>ud _ q,λ_=>VG,λy hy=>absurd rfl hy⟩
theorem attr_of {prog:o9}{w:og}{env:Env}{e:Expr}{f:Str}{pos:Pos}{s:o7}{Q:o6->o7->Prop}(O:Gh e f env (eval e env)=eval e env)
  (h:V8 #[w,w] A (eval e env) (λo U=>V8 #[w,w] A (Tp o f v_) Q E U) E s):V8 #[w,w] A (eval (.Attribute e f pos) env) Q E s:=
 Attribute_any_ h (by rw [arm_eval_Attribute,O])
end
inductive ItFld (K:PySem.W.Frag) (f:Str) (Q:VK) (x:V) (H1:Hp):Prop
 |mk (a:_) (C:_) (dx:_) (fs:_) (v:_) (_:x= .ref a) (_:H1 a=u_ (.ins C dx fs)) (_:Cls K C) (_:QG K C f) (_:fs.lookup f=u_ v) (_:Q v H1)
noncomputable def tFld (K:o0)(ta:TE)(f:Str):TE:=λσ H Q=>ta σ H λx H1=>ItFld K f Q x H1
inductive IsFld (K:PySem.W.Frag) (f:Str) (D:Ends) (σ:St) (y:V) (x:V) (H2:Hp):Prop
 |mk (a:_) (C:_) (dx:_) (fs:_) (_:x= .ref a) (_:H2 a=u_ (.ins C dx fs)) (_:Cls K C) (_:QG K C f) (_:fs.length<1000) (_:D.nx σ (upd H2 a (.ins C dx (putF f y fs))))
noncomputable def sFld (K:o0)(ta tv:TE)(f:Str):TS:=λD σ H=>tv σ H λy H1=>ta σ H1 λx H2=>IsFld K f D σ y x H2
noncomputable def InOp (X:Cx)(op:GW)(rd:V->V->Hp->VK->Prop):Prop:=
 ∀(oq:oj (o3×Obj)) (s:o7) (σ:St) (H:Hp) (x y:V) (u v:o6) (Q:VK),Inv X oq σ H s->RelV x u->RelV y v->rd x y H Q->V8 #[X,X] X.A (HW op u v) (EP X oq σ Q) X.xe s
inductive IsFldAug (K:PySem.W.Frag) (tv:TE) (rd:V->V->Hp->VK->Prop) (f:Str) (D:Ends) (σ:St) (x:V) (H1:Hp):Prop
 |mk (a:_) (C:_) (dx:_) (fs:_) (v:_) (_:x= .ref a) (_:H1 a=u_ (.ins C dx fs)) (_:Cls K C) (_:QG K C f) (_:fs.lookup f=u_ v) (_:tv σ H1 λy H2=>rd v y H2 λz H3=>∃dx' fs',H3 a=u_ (.ins C dx' fs')/\fs'.length<1000/\D.nx σ (upd H3 a (.ins C dx' (putF f z fs'))))
noncomputable def sFldAug (K:o0)(ta tv:TE)(rd:V->V->Hp->VK->Prop)(f:Str):TS:=λD σ H=>ta σ H λx H1=>IsFldAug K tv rd f D σ x H1
section
variable {X:Cx}{o e value:Expr}{f:Str}{pos pos' tpos:Pos}{ta tv:TE}
theorem qN (O:PE X e ta)(U:Gh e f X.env (eval e X.env)=eval e X.env):PE X (.Attribute e f pos) (tFld X.K ta f):=by
 intro oq s σ H Q I h;refine attr_of U (thn (O oq s σ H _ I h) λu s1 zq=> ?_);erw[zq,x,H1,I1,rx,a,C,dx,fs,v,ex,ea,c,n,l,q];subst ex;obtain rfl:u=Ve a:=rx;exact W8 I1 ea c n l λu' s2 I2 ru=>⟨v,H1,I2,ru,q⟩
theorem Qc (ha:PE X o ta)(O:PE X value tv)(U:GU value (u_ (.Attribute o f pos')) pos.line X.env=pure V7):PS X (.Assign [.Attribute o f pos'] value pos) (sFld X.K ta tv f):=by
 intro oq s σ H D I h;refine plainObj_wpAny_Assign_Attribute (thn (O oq s σ H _ I h) λu s1 ⟨y,H1,I1,ry,q⟩=>thn (ha oq s1 σ H1 _ I1 q) λov s2 zq=> ?_) U;erw[zq,x,H2,I2,rx,a,C,dx,fs,ex,ea,c,n,l,q2];subst ex;obtain rfl:ov=Ve a:=rx;exact W5 I2 ea c n l ry λs3 I3=>⟨σ,_,I3,q2⟩
theorem Jf {op:GW}{rd:V->V->Hp->VK->Prop}(ha:PE X o ta)(hv:PE X value tv)(O:InOp X op rd):PS X (.AugAssign (.Attribute o f tpos) op value pos) (sFldAug X.K ta tv rd f):=by
 intro oq s σ H D I h;refine wpAny_AugAssign_AttributeAny (thn (ha oq s σ H _ I h) λov s1 zq=> ?_);erw[zq,x,H1,I1,rx,a,C,dx,fs,v,ex,ea,c,n,l,q];subst ex;obtain rfl:ov=Ve a:=rx;refine W8 I1 ea c n l λu s2 I2 ru=>thn (hv oq s2 σ H1 _ I2 q) λw3 s3 ⟨y,H2,I3,ry,q3⟩=>thn (O oq s3 σ H2 v y u w3 _ I3 ru ry q3) λw4 s4 zq=> ?_;erw[zq,z,H3,I4,rz,dx',fs',U,l',q4];exact W5 I4 U c n l' rz λs5 I5=>⟨σ,_,I5,q4⟩
inductive rAdd (x:V) (y:V) (H:Hp) (Q:VK):Prop
 |mk (i:_) (j:_) (_:x= .int i) (_:y= .int j) (_:Q (.int (i+j)) H)
theorem in_add:InOp X .Add rAdd:=by
 rintro oq s σ H x y u v Q I O U ⟨i,j,rfl,rfl,q⟩;obtain⟨t,rfl⟩:=(show∃t,u=gU i t from O)
 obtain⟨t',rfl⟩:=(show∃t',v=gU j t' from U)
 exact pL ⟨.int (i+j),H,I.tok _,⟨0⟩,q⟩
end
section
variable {X:Cx}{oq:oj (o3×Obj)}{σ:St}{H:Hp}{s:o7}{A:oh}{E:o6->o7->Prop}{Q:o6->o7->Prop}{c:o6}{b:Bool}
inductive TyOf (K:PySem.W.Frag) (H:Hp):V->Value->Prop where
 |non:TyOf K H .non (.type "NoneType")
 |bl (x:Bool):TyOf K H (.bl x) (.type "bool")
 |int (i:Int):TyOf K H (.int i) (.type "int")
 |str (x:Str):TyOf K H (.str x) (.type "str")
 |flt (x:UInt64):TyOf K H (.flt x) (.type "float")
 |lst {a:Addr}{xs:List V} (e:H a=u_ (.lst xs)):TyOf K H (.ref a) (.type "list")
 |frz {a:Addr}{o:Obj}{xs:List V} (e:H a=u_ (.frz o (.lst xs))):TyOf K H (.ref a) (.type "list")
 |tup {a:Addr}{xs:List V} (e:H a=u_ (.tup xs)):TyOf K H (.ref a) (.type "tuple")
 |dK {a:Addr}{kvs:List (Key×V)} (e:H a=u_ (.dK kvs)):TyOf K H (.ref a) (.type "dict")
 |dT {a:Addr}{kvs:List (List Key×V)} (e:H a=u_ (.dT kvs)):TyOf K H (.ref a) (.type "dict")
 |ins {a C dx:Addr}{fs:List (Str×V)} (e:H a=u_ (.ins C dx fs)) (cl:Cls K C) (ha:PySem.W.findIn K (.ref C) "__class__"=u_ (u_ (.builtin "object.__class__")))
   (hn:PySem.W.specialIn K (.builtin "object.__class__") "__get__"=u_ (u_ (.builtin "getset_descriptor.__get__"))) (htk:PySem.W.takesIn K (.builtin "object.__class__")=u_ v_)
   (hm:PySem.W.mroIn K C (.type "object")=u_ v_):TyOf K H (.ref a) (.ref C)
theorem isinst_ok {x:V}{t:o6}(I:Inv X oq σ H s)(U:RelV x u)(ty:TyOf X.K H x t)(e:PySem.W.kitOne X.K t c=u_ b)(h:∀tk,Q (.bool b) {s with toks:=tk}):
  V8 #[X,X] A (call (.builtin "isinstance") [u,c]) Q E s:=by
 cases ty with
 |non=>cases(show u=VP from U);exact vy PySem.W.kitx_none I.kIn VG e (λz=>nomatch z) h
 |bl y=>cases(show u=HA y from U);exact vy PySem.W.kitx_bool I.kIn VG e (λz=>nomatch z) h
 |int i=>obtain⟨t,q⟩:=(show∃t,u=gU i t from U);cases q;exact vy PySem.W.kitx_int I.kIn VG e (λz=>nomatch z) h
 |str y=>obtain⟨t,q⟩:=(show∃t,u=VC y t from U);cases q;exact vy PySem.W.kitx_str I.kIn VG e (λz=>nomatch z) h
 |flt y=>obtain⟨t,q⟩:=(show∃t,u=T4 y t from U);cases q;exact vy PySem.W.kitx_float I.kIn VG e (λz=>nomatch z) h
 | @lst a xs ea=>
  cases(show u=Ve a from U)
  obtain⟨_,_,n,_,h1⟩:=(show yr X.prog X.w H s.heap a (.lst xs) from I.hok a _ ea)
  exact vy PySem.W.kitx_list I.kIn [_:h1:1] e (λz=>nomatch z) h
 | @frz a ob xs ea=>
  cases(show u=Ve a from U)
  obtain⟨_,_,_,n,_,h1⟩:=(show yr X.prog X.w H s.heap a (.frz ob (.lst xs)) from I.hok a _ ea)
  exact vy PySem.W.kitx_list I.kIn [_:h1:1] e (λz=>nomatch z) h
 | @tup a xs ea=>
  cases(show u=Ve a from U)
  obtain⟨_,_,_,p⟩:=(show yr X.prog X.w H s.heap a (.tup xs) from I.hok a _ ea)
  erw[p,o,h1,h2,_];exact vy PySem.W.kitx_tuple I.kIn [o:h1:h2] e (λz=>nomatch z) h
 | @dK a kvs ea=>
  cases(show u=Ve a from U)
  obtain⟨_,_,vs,_,p⟩:=(show yr X.prog X.w H s.heap a (.dK kvs) from I.hok a _ ea)
  erw[p,o,es,ep,h1,h2,_];exact vy PySem.W.kitx_dict I.kIn [o:h1:h2.1] e (λz=>nomatch z) h
 | @dT a kvs ea=>
  cases(show u=Ve a from U)
  obtain⟨_,_,xs,_,o,es,ep,h1,h2,_⟩:=(show yr X.prog X.w H s.heap a (.dT kvs) from I.hok a _ ea)
  exact vy PySem.W.kitx_dict I.kIn [o:h1:h2.1] e (λz=>nomatch z) h
 | @ins a C dx fs ea cl ha hn htk hm=>
  cases(show u=Ve a from U)
  erw[kE I.hok ea,mA,O,_];erw[O.look,od,J,_];exact vy (PySem.W.kitx_own (cl.get _) cl.hd ha hn htk hm) I.kIn J e (λz=>nomatch z) h
end
structure Room (k:Nat)(A:oh):Prop where
 hd:A.handled=U_
 dp:A.depth+3*k+5<recursionLimit
 un:A.units+16*k+200<Vj
variable {j:Nat}
theorem Room.mono {k:Nat}(r:Room k A)(h:j<=k):Room j A:=⟨r.hd,by have:=r.dp;omega,by have:=r.un;omega⟩
theorem Room.deeper {k:Nat}(r:Room (k+1) A)(env:Env):Room k (A.deeper env):=
 ⟨r.hd,by have:=r.dp;show A.depth+1+3*k+5<_;omega,by have:=r.un;show A.units+3+16*k+200<_;omega⟩
theorem make_depth {O:oj (Str×o6)}:(A.under (.builtin "type.__call__" [.ref C::us:O])).depth=A.depth+1:=by
 first|rfl|simp [HN,Code.weight,Code.isCreation,Code.isGuard,Code.isCaller,Fq,T8,guardIds]
theorem make_units {O:oj (Str×o6)}:(A.under (.builtin "type.__call__" [.ref C::us:O])).units=A.units+1:=by
 first|rfl|simp [HN,Code.cUnits,Fq,T8]
theorem Room.make {k:Nat}(r:Room (k+1) A)(C:o3)(us:oj o6)(O:oj (Str×o6)):Room k (A.under (.builtin "type.__call__" [.ref C::us:O])):=
 ⟨r.hd,by have:=r.dp;rw [make_depth];omega,by have:=r.un;rw [make_units];omega⟩
theorem Room.depth {k:Nat}(r:Room k A):A.depth<recursionLimit:=by have:=r.dp;omega
theorem Room.units {k:Nat}(r:Room k A):A.units+64<cLine:=by have:=r.un;omega
noncomputable def tNil:TA:=λ_ H Q=>Q [] H
noncomputable def tCons (ta:TE)(tr:TA):TA:=λσ H Q=>ta σ H λx H1=>tr σ H1 λxs H2=>Q (x::xs) H2
section
variable {X:Cx}{e:Expr}{es:oj Expr}{te:TE}{t:TA}{pos:Pos}
theorem qd:PA X [] tNil:=λ_ _ _ _ H Q I h=>Uc ⟨[],H,I,.nil,h⟩
theorem qb (ha:PE X e te)(O:PA X es t)(U:Vd (e::es) X.env=(V7,eval e X.env)::Vd es X.env:=by rfl):PA X (e::es) (tCons te t):=by
 intro pos oq s σ H Q I h;rw [U];show V8 _ _ (h_ ((V7,eval e X.env)::Vk pos (Vd es X.env))) _ _ s;refine vO (thn (ha oq s σ H _ I h) λu s1 zq=> ?_);erw[zq,x,H1,I1,r1,q1];exact thn (O pos oq s1 σ H1 _ I1 q1) λus s2 ⟨xs,H2,I2,r2,q2⟩=>⟨x::xs,H2,I2,.cons r1 r2,q2⟩
noncomputable def tTup (t:TA):TE:=λσ H Q=>t σ H λxs H1=>xs.length<=Vb/\∀p,H1 p=U_->Q (.ref p) (upd H1 p (.tup xs))
noncomputable def tLst (t:TA):TE:=λσ H Q=>t σ H λxs H1=>xs.length<=Vb/\∀p,H1 p=U_->Q (.ref p) (upd H1 p (.lst xs))
theorem qE {x1}(h:PA X es t):PE X (.Tuple es x1 pos) (tTup t):=by
 intro oq s σ H Q I U;refine wpAny_Tuple_spliced (thn (h pos oq s σ H _ I U) λus s1 ⟨xs,H1,O,r,z,q⟩=>⟨by rwa [<-r.length],?_⟩)
 have hf:H1 s1.heap.objs.size=none:=O.hok.fresh (uh _);refine⟨.ref s1.heap.objs.size,upd H1 s1.heap.objs.size (.tup xs),O.laid (t':=s1.toks) (λb u e=>ud _ e) (uh _) ?_,1,q _ hf⟩;exact⟨z,us,r,⟨_,uC _ rfl,1,0⟩⟩
theorem QT (h:PA X es t):PE X (.List es pos) (tLst t):=by
 intro oq s σ H Q I U;refine wpAny_List_spliced (thn (h pos oq s σ H _ I U) λus s1 ⟨xs,H1,O,r,z,q⟩=>⟨by rwa [<-r.length],?_⟩)
 have hf:H1 s1.heap.objs.size=none:=O.hok.fresh (uh _);refine⟨.ref s1.heap.objs.size,upd H1 s1.heap.objs.size (.lst xs),O.laid (t':=s1.toks) (λb u e=>ud _ e) (uh _) ?_,1,q _ hf⟩;exact⟨z,us,(0),r,uC _ rfl⟩
end
noncomputable abbrev Sp:=oj V->Hp->VK->XK->Prop
noncomputable abbrev CXT:=oj Env->Hp->o7->XK->o6->o7->Prop
structure Env0 (P:o9)(w:og)(K:o0)(mg:Str->om o6)(base:o8)(A:oh)(outer:oj Env)(s:o7)(H:Hp):Prop where
 frames:A.frames=u_ outer
 mod:Mod K mg base
 bs:∀b o,base.get? b=u_ o->s.heap.get? b=u_ o/\H b=U_
 bsz:base.objs.size<=s.heap.objs.size
 funs:s.heap.FunFrames base outer
 frf:∀b∈frs outer,H b=U_
 hok:HOk P w H s.heap
 bare:VS s.gens
noncomputable def CE (outer:oj Env)(P:o9)(w:og)(H:Hp)(s:o7)(Q:VK)(u:o6)(s':o7):Prop:=
 ∃v H',s'.os=s.os/\VS s'.gens/\0<s'.toks/\Un (frs outer) [] H H' s.heap s'.heap/\HOk P w H' s'.heap/\RelV v u/\Q v H'
noncomputable def CR (CX:CXT)(outer:oj Env)(P:o9)(w:og)(H:Hp)(s:o7)(Q:VK)(E:XK)(r:gX)(s':o7):Prop:=
 match r with
 | .ok (.ret u)=>CE outer P w H s Q u s'
 | .ok _=>False
 | .error e=>CX outer H s E e s'
structure FnOk (P:o9)(w:og)(K:o0)(mg:Str->om o6)(base:o8)(CX:CXT)(k:Nat)(f:o3)(fd:Va)(ps:oj Str)(sp:Sp):Prop where
 len:∀vs H Q E,sp vs H Q E->vs.length=ps.length
 run:∀(A:oh) (outer:oj Env) (s:o7) (H:Hp) (args:Args) (us:oj o6) (vs:oj V) (Q:VK) (E:XK),Room k A->Env0 P w K mg base A outer s H->Gr s fd args (ps.zip us)->Vals vs us->sp vs H Q E->(0<s.toks∨∃x r,ps=x::r/\fd.scope.names.lookup x=u_ .local)->
  VD (Vq P w) A (.call (.ref f) args) (CR CX outer P w H s Q E) s
variable {mg:Str->om o6}
theorem Env0.make {P:o9}{base:o8}{outer:oj Env}(e:Env0 P w K mg base A outer s H)(C:o3)(us:oj o6)(O:oj (Str×o6)):
  Env0 P w K mg base (A.under (.builtin "type.__call__" [.ref C::us:O])) outer s H:=⟨by first|exact e.frames|(simpa [HN,Code.envs,T8,pushEnvs] using e.frames),e.mod,e.bs,e.bsz,e.funs,e.frf,e.hok,e.bare⟩
section
variable {X:Cx}{oq:oj (o3×Obj)}{σ:St}{H:Hp}{s s':o7}
theorem Inv.env0 (I:Inv X oq σ H s):Env0 X.prog X.w X.K X.mg X.base X.A X.stack s H:=
 ⟨I.ok.frames,I.ok.mod,I.bs,uI I.ok.bsz I.sz,I.stack,I.stkFree,I.hok,I.bare⟩
variable {Q:VK}
theorem Inv.after (I:Inv X oq σ H s)(h:CE X.stack X.prog X.w H s Q u s'):EP X oq σ Q u s':=by
 erw[h,v,H',os,bare,htk,un,hok,r,q];erw[s',U,g,d,t,O];obtain rfl:O=s.os:=os;exact⟨v,H',I.call (h':=U) (g':=g) (d':=d) (t':=t) (ch:= []) un hok bare (λb z=>absurd z (by simp)),r,q⟩
end
noncomputable def tCall (sp:Sp)(dvs:oj V)(E:XK)(t:TA):TE:=λσ H Q=>t σ H λvs H1=>sp (vs++dvs) H1 Q E
inductive ItMeth (C:Addr) (m:Str) (sp:Sp) (dvs:List V) (E:XK) (t:TA) (σ:St) (Q:VK) (x:V) (H1:Hp):Prop
 |mk (a:_) (dx:_) (fs:_) (_:x= .ref a) (_:H1 a=u_ (.ins C dx fs)) (_:fs.lookup m=U_) (_:t σ H1 λvs H2=>sp (x::(vs++dvs)) H2 Q E)
noncomputable def tMeth (C:o3)(m:Str)(sp:Sp)(dvs:oj V)(E:XK)(ta:TE)(t:TA):TE:=λσ H Q=>ta σ H λx H1=>ItMeth C m sp dvs E t σ Q x H1
noncomputable def tMake (C:o3)(sp:Sp)(dvs:oj V)(E:XK)(t:TA):TE:=λσ H Q=>t σ H λvs H1=>∀x dx,H1 x=U_->H1 dx=U_->dx≠x->
 sp (.ref x::(vs++dvs)) (upd (upd H1 dx (.own x)) x (.ins C dx [])) (λv H2=>v= .non/\Q (.ref x) H2) E
noncomputable def zK (K:o0)(fd:Va)(ps:oj Str)(ds:oj o6):Prop:=
 ∀(s:o7) (us:oj o6),K.In s.heap->(us++ds).length=ps.length->Gr s fd [us:[]] (ps.zip (us++ds))
theorem zK.all {fd:Va}{ps:oj Str}(h:∀us:oj o6,us.length=ps.length->g_ fd [us:[]]=pure (ps.zip us)):zK K fd ps []:=λs us _ O=>by
 rw [uW] at O⊢;exact .of_eq (h us O)
noncomputable def XL (CX:CXT)(X:Cx)(E:XK):Prop:=∀(oq:oj (o3×Obj)) (σ:St) (H:Hp) (s:o7) (e:o6) (s':o7),Inv X oq σ H s->CX X.stack H s E e s'->X.xe e s'
section
variable {X:Cx}{CX:CXT}{k:Nat}{f C:o3}{fd:Va}{ps:oj Str}{sp:Sp}{dvs:oj V}{ds:oj o6}{E:XK}{x m:Str}{p pos apos:Pos}{e o:Expr}{es:oj Expr}{ta:TE}{t:TA}
theorem run_fn {oq:oj (o3×Obj)}{σ:St}{H:Hp}{s:o7}{Q:VK}{us:oj o6}{vs:oj V}(F:FnOk X.prog X.w X.K X.mg X.base CX k f fd ps sp)(hr:Room k X.A)(hb:zK X.K fd ps ds)(hd:Vals dvs ds)(hx:XL CX X E)
  (I:Inv X oq σ H s) (r:Vals vs us) (h:sp (vs++dvs) H Q E):V8 #[X,X] X.A (call (.ref f) us) (EP X oq σ Q) X.xe s:=by
 have U:Vals (vs++dvs) (us++ds):=r.append hd;have hl:(us++ds).length=ps.length:=by rw [<-U.length];exact F.len _ _ _ _ h
 refine T0 (Hm (F.run X.A X.stack s H [us:[]] (us++ds) (vs++dvs) Q E hr I.env0 (hb s us I.kIn hl) U h (.inl I.tk)) λr s' O=> ?_);cases r with
 |error e=>exact hx oq σ H s e s' I O
 |ok fl=>
  cases fl with
  |ret u=>exact I.after O
  |next=>exact VB O
  |brk=>exact VB O
  |cont=>exact VB O
theorem qw (F:FnOk X.prog X.w X.K X.mg X.base CX k f fd ps sp)(hr:Room k X.A)(hg:Gl X x)(hm:X.mg x=u_ (.ref f))(hk:PySem.W.keepIn X.K (.ref f)=v_)(hb:zK X.K fd ps ds)(hd:Vals dvs ds)(hx:XL CX X E)
  (ha:PA X (e::es) t) (O:(x==("__debug__":Str))=V7) (he:Vd (e::es) X.env=(V7,eval e X.env)::Vd es X.env) (U:(Vk pos (Vd es X.env)).any (·.1)=V7):
  PE X (.Call (.Name x p) (e::es) [] pos) (tCall sp dvs E t):=by
 intro oq s σ H Q I h;refine vZ (KK I hg hm ?_ O);refine UM (h₀:=X.base) I.ok.mod.kin hk (thn (ha pos oq s σ H _ I h) λus s1 ⟨vs,H1,I1,r,q⟩=>[I1.kIn:?_]) he U;exact run_fn F hr hb hd hx I1 r q
theorem Qv {pl:Sem Bool}(he:PE X o ta)(c:Cls X.K C)(hm:Meth X.K C m f)(F:FnOk X.prog X.w X.K X.mg X.base CX k f fd ps sp)(hr:Room k X.A)(hb:zK X.K fd ps ds)(hd:Vals dvs ds)(hx:XL CX X E)(ha:PA X (e::es) t)
  (O:Vd (e::es) X.env=(V7,eval e X.env)::Vd es X.env) (U:(Vk pos (Vd es X.env)).any (·.1)=V7)
  (ht:eval (.Call (.Attribute o m apos) (e::es) [] pos) X.env=(do
   let ov<-eval o X.env
   GT apos.atName
   let(f,first)<-gV [ov] (Hh ov m pl)
   tO pos f first (Vk pos (Vd (e::es) X.env)) (Gj pos (Gb [] X.env)))):
  PE X (.Call (.Attribute o m apos) (e::es) [] pos) (tMeth C m sp dvs E ta t):=by
 intro oq s σ H Q I h;refine PySem.W.methodCall_KW (pl:=pl) (thn (he oq s σ H _ I h) λu s1 zq=> ?_) ht;erw[zq,x,H1,I1,rx,a,dx,fs,ex,ea,l,q];subst ex;obtain rfl:u=Ve a:=rx;refine WS I1 ea c hm l ?_;refine UM (first:= [.ref a]) (h₀:=X.base) I.ok.mod.kin hm.kp (thn (ha pos oq s1 σ H1 _ I1 q) λus s2 ⟨vs,H2,I2,r,q2⟩=>[I2.kIn:?_]) O U;exact run_fn (us:= .ref a::us) (vs:= .ref a::vs) F hr hb hd hx I2 (.cons rfl r) q2
theorem QB {pl:Sem Bool}(U:PE X o ta)(c:Cls X.K C)(hm:Meth X.K C m f)(F:FnOk X.prog X.w X.K X.mg X.base CX k f fd ps sp)(hr:Room k X.A)(hb:zK X.K fd ps ds)(hd:Vals dvs ds)(hx:XL CX X E)
  (ht:eval (.Call (.Attribute o m apos) [] [] pos) X.env=(do
   let ov<-eval o X.env
   GT apos.atName
   let(f,first)<-gV [ov] (Hh ov m pl)
   tO pos f first (Vk pos (Vd [] X.env)) (Gj pos (Gb [] X.env)))):
  PE X (.Call (.Attribute o m apos) [] [] pos) (tMeth C m sp dvs E ta tNil):=by
 intro oq s σ H Q I h;refine PySem.W.methodCall_KW (pl:=pl) (thn (U oq s σ H _ I h) λu s1 zq=> ?_) ht;erw[zq,x,H1,O,rx,a,dx,fs,ex,ea,l,q];subst ex;obtain rfl:u=Ve a:=rx;refine WS O ea c hm l ?_;exact PySem.W.callWith_K0 (first:= [.ref a]) O.kIn hm.kp (run_fn (us:= [.ref a]) (vs:= [.ref a]) F hr hb hd hx O (.cons rfl .nil) q)
structure Mk (K:o0)(C f:o3):Prop where
 makes:PySem.W.makesIn K C=v_
 init:PySem.W.findIn K (.ref C) "__init__"=u_ (u_ (.ref f))
 fn:PySem.W.isFn K (.ref f)=v_
 kp:PySem.W.keepIn K (.ref C)=v_
theorem run_make {oq:oj (o3×Obj)}{σ:St}{H:Hp}{s:o7}{Q:VK}{us:oj o6}{vs:oj V}(M:Mk X.K C f)(F:FnOk X.prog X.w X.K X.mg X.base CX k f fd ps sp)(hr:Room (k+1) X.A)(hb:zK X.K fd ps ds)(hd:Vals dvs ds)
  (hx:XL CX X E) (I:Inv X oq σ H s) (r:Vals vs us)
  (h:∀x dx,H x=U_->H dx=U_->dx≠x->sp (.ref x::(vs++dvs)) (upd (upd H dx (.own x)) x (.ins C dx [])) (λv H2=>v= .non/\Q (.ref x) H2) E):
  V8 #[X,X] X.A (call (.ref C) us) (EP X oq σ Q) X.xe s:=by
 have hq:=h (s.heap.objs.size+1) s.heap.objs.size (I.hok.fresh (GQ _)) (I.hok.fresh (uh _)) (uL (V0 _));have U:=Inv.made (C:=C) I;have r2:Vals (V.ref (s.heap.objs.size+1)::(vs++dvs)) (Ve (s.heap.objs.size+1)::(us++ds)):= .cons rfl (r.append hd);have hl:(Ve (s.heap.objs.size+1)::us++ds).length=ps.length:=by
  have e:=r2.length;rw [F.len _ _ _ _ hq] at e;exact e.symm
 refine T0 (make_map (f:=f) I.kIn M.makes M.init (beq_iff_eq.mp M.fn) (Hm (F.run _ X.stack _ _ [Ve (s.heap.objs.size+1)::us:[]] (Ve (s.heap.objs.size+1)::(us++ds)) _ _ E (hr.make C us [])
  (U.env0.make C us []) (hb _ (Ve (s.heap.objs.size+1)::us) U.kIn hl) r2 hq (.inl U.tk)) λr s' O=> ?_))
 cases r with
 |error e=>exact hx oq σ _ _ e s' U O
 |ok fl=>
  cases fl with
  |ret u=>
   erw[U.after O,v,H',I3,rv,ev,q3];subst ev;exact[rv:⟨V.ref (s.heap.objs.size+1),H',I3,1,q3⟩]
  |next=>exact VB O
  |brk=>exact VB O
  |cont=>exact VB O
theorem ZS (M:Mk X.K C f)(F:FnOk X.prog X.w X.K X.mg X.base CX k f fd ps sp)(hr:Room (k+1) X.A)(hg:Gl X x)(hm:X.mg x=u_ (.ref C))(hb:zK X.K fd ps ds)(hd:Vals dvs ds)(hx:XL CX X E)
  (ha:PA X (e::es) t) (O:(x==("__debug__":Str))=V7) (he:Vd (e::es) X.env=(V7,eval e X.env)::Vd es X.env) (U:(Vk pos (Vd es X.env)).any (·.1)=V7):
  PE X (.Call (.Name x p) (e::es) [] pos) (tMake C sp dvs E t):=by
 intro oq s σ H Q I h;refine vZ (KK I hg hm ?_ O);refine UM (h₀:=X.base) I.ok.mod.kin M.kp (thn (ha pos oq s σ H _ I h) λus s1 ⟨vs,H1,I1,r,q⟩=>[I1.kIn:?_]) he U;exact run_make M F hr hb hd hx I1 r q
end
structure qu (N P:oj Str)(sc:Vt):Prop where
 kind:sc.kind= .function
 co:sc.isCoroutine=V7
 gen:sc.isGenerator=V7
 nd:N.Nodup
 pre:N.take P.length=P
 par:∀x∈P,sc.names.lookup x=u_ .local∨sc.names.lookup x=u_ .cell
 nofree:∀y∈sc.names,y.2≠ .free
theorem bindL_out {kindOf:Str->om VJ}{x:Str}:∀{binds:oj (Str×o6)}{m:Str->om o6},(∀v,(x,v)∉binds)->VM kindOf binds m x=m x
 | [],_,_=>rfl
 |(n,v)::r,m,h=>by
  unfold VM;rw [bindL_out λw O=>h w (ue _ O)];split
  ·have:x≠n:=by rintro rfl;exact h v uf
   simp [this]
  ·rfl
theorem bindC_out {kindOf:Str->om VJ}{x:Str}:∀{binds:oj (Str×o6)}{m:Str->om o6},(∀v,(x,v)∉binds)->VL kindOf binds m x=m x
 | [],_,_=>rfl
 |(n,v)::r,m,h=>by
  unfold VL;rw [bindC_out λw O=>h w (ue _ O)];split
  ·rfl
  ·have:x≠n:=by rintro rfl;exact h v uf
   simp [this]
theorem bindL_get {kindOf:Str->om VJ}{x:Str}{v:o6}:∀{P:oj Str}{vs:oj o6}{i:Nat}{m:Str->om o6},P.Nodup->P[i]? =u_ x->vs[i]? =u_ v->kindOf x=u_ .local->
  VM kindOf (P.zip vs) m x=u_ v
 | [],_,_,_,_,h,_,_=>by simp at h
 |_::_,[],_,_,_,_,h,_=>by simp at h
 |p::P,w::vs,0,m,nd,h1,h2,hk=>by
  simp at h1 h2;subst h1;subst h2;show VM kindOf ((p,w)::P.zip vs) m p=_;unfold VM;rw [bindL_out λv O=>(List.nodup_cons.mp nd).1 (HM O).1,A5 hk];simp
 |p::P,w::vs,i+1,m,nd,h1,h2,hk=>by
  show VM kindOf ((p,w)::P.zip vs) m x=_;unfold VM;exact bindL_get (i:=i) (List.nodup_cons.mp nd).2 (by simpa using h1) (by simpa using h2) hk
theorem bindC_get {kindOf:Str->om VJ}{x:Str}{v:o6}:∀{P:oj Str}{vs:oj o6}{i:Nat}{m:Str->om o6},P.Nodup->P[i]? =u_ x->vs[i]? =u_ v->kindOf x≠u_ .local->
  VL kindOf (P.zip vs) m x=u_ v
 | [],_,_,_,_,h,_,_=>by simp at h
 |_::_,[],_,_,_,_,h,_=>by simp at h
 |p::P,w::vs,0,m,nd,h1,h2,hk=>by
  simp at h1 h2;subst h1;subst h2;show VL kindOf ((p,w)::P.zip vs) m p=_;unfold VL;rw [bindC_out λv O=>(List.nodup_cons.mp nd).1 (HM O).1,A4 hk];simp
 |p::P,w::vs,i+1,m,nd,h1,h2,hk=>by
  show VL kindOf ((p,w)::P.zip vs) m x=_;unfold VL;exact bindC_get (i:=i) (List.nodup_cons.mp nd).2 (by simpa using h1) (by simpa using h2) hk
noncomputable def Kn (N:oj Str)(vs:oj V):St:=vs.map u_++FT (N.length-vs.length) U_
noncomputable def cxOf (CX:CXT)(P:o9)(w:og)(K:o0)(mg:Str->om o6)(base:o8)(N:oj Str)(qual:Str)(scope:Vt)(f:o3)(cd:o6)(A:oh)(outer:oj Env)(s:o7)(H:Hp)(E:XK):Cx where
 prog:=P
 w:=w
 K:=K
 mg:=mg
 base:=base
 A:=A.deeper (Vf qual scope s.heap.objs.size f cd)
 N:=N
 s₀:=s
 H₀:=H
 env:=Vf qual scope s.heap.objs.size f cd
 outer:=outer
 stack:=Vf qual scope s.heap.objs.size f cd::outer
 ex:= []
 calm:=v_
 fn:=λ_=>v_
 pn:= []
 xe:=λe s'=>V8 (Vq P w) (A.deeper (Vf qual scope s.heap.objs.size f cd)) (Ta (Vf qual scope s.heap.objs.size f cd) e) (λ_ s''=>CX outer H s E e s'') (λe' s''=>CX outer H s E e' s'') s'
variable {n:Nat}{x:Str}
theorem cell_has {sc:Vt}(h:sc.names.lookup x=u_ .cell):∃c,(Gz n sc.names []).lookup x=u_ c:=by
 have q:=PySem.W.cellsFrom_some sc.names n [] (.inl h);exact Option.isSome_iff_exists.mp q
theorem inv_start {CX:CXT}{P:o9}{w:og}{K:o0}{mg:Str->om o6}{base:o8}{N ps:oj Str}{qual:Str}{scope:Vt}{f:o3}{cd:o6}{A:oh}{outer:oj Env}{s s1:o7}{H:Hp}{E:XK}{us:oj o6}{vs:oj V}
  (S:qu N ps scope) (hd:A.handled=U_) (O:Env0 P w K mg base A outer s H) (hl:vs.length=ps.length) (r:Vals vs us)
  (x:GV s s.heap.objs.size (VM (Vf qual scope s.heap.objs.size f cd).kindOf (ps.zip us) λ_=>U_) (Gz (s.heap.objs.size+1) scope.names []) (VL (Vf qual scope s.heap.objs.size f cd).kindOf (ps.zip us) λ_=>U_) s1) (ac:0<s1.toks):
  Inv (cxOf CX P w K mg base N qual scope f cd A outer s H E) [] (Kn N vs) H s1:=by
 have ad:ps.length<=N.length:=by have:=congrArg Vz S.pre;rw [vR] at this;omega
 erw[x.done,h1,tk,rfl,hk];have U:∀b:o3,b∉(cxOf CX P w K mg base N qual scope f cd A outer s H E).ex:=λb z=>absurd (show b∈([]:oj o3) from z) (by simp)
 refine⟨⟨O.mod,S.kind,1,1,uh _,λy z c h1 h2=> ?_,λy hy=> ?_,λy c _ h=> ?_,λ_=>hd,Around.frames_deeper O.frames,.inr [1:1],λb z=>absurd z (U b),O.bs,O.bsz,λb _ _=>U b,λb z=>absurd z (U b),O.funs,O.frf⟩,1,O.bare,Un.kept hk,[_:x.toInCall.ns:λi y v h1 h2 h3=> ?_],λy c h=>[_:x.cell y c h],O.hok.fresh (uh _),λy c h=> ?_,λp hp=>absurd (show p∈([]:oj (o3×Obj)) from hp) (by simp),O.hok.kept hk,?_,ac⟩
 ·exact name_of_addr x.apart (vH h1) (vH h2)
 ·have hy:scope.names.lookup y=u_ .cell∨scope.names.lookup y=u_ .free:=hy;rcases hy with hy|hy
  ·exact cell_has hy
  ·exact absurd rfl (S.nofree _ (vH hy))
 ·exact UY (x.above y c (vH h))
 ·have hi:i<vs.length:=by
   unfold Kn at h2;by_cases hi:i<vs.length
   ·exact hi
   ·rw [UC (by simpa using hi)] at h2
    rw [FU] at h2;split at h2<;>cases h2
  have ha:vs[i]? =u_ v:=by
   unfold Kn at h2;rw [UD (by simpa using hi),uE] at h2
   cases e:vs[i]? with
   |none=>rw [e] at h2;cases h2
   |some a=>rw [e] at h2;cases h2;rfl
  erw[r.get ha,u,hu,rv];have hp:ps[i]? =u_ y:=by
   rwa [<-S.pre,List.getElem?_take_of_lt ()]
  have aa:ps.Nodup:=by rw [<-S.pre];exact S.nd.sublist (Rc _ _)
  exists u,rv;rcases S.par y (uQ hp) with k|k
  ·exact .inl [k:bindL_get aa hp hu k]
  ·erw[cell_has (n:=s.heap.objs.size+1) k,c,e];refine .inr ⟨.inl k,c,e,?_⟩;have q:=x.cell y c e;rw [bindC_get aa hp hu (by show scope.names.lookup y≠_;rw [k];decide)] at q
   exact q
 ·exact O.hok.fresh (UY (x.above y c (vH h)))
 ·unfold Kn;show _=N.length;rw [uu,ua,Fa];omega
theorem bindParams1 {M:Gq}{A:oh}{E:o6->o7->Prop}{s₀ s:o7}{m cm:Str->om o6}{env:Env}(f:Str×o6->PUnit->Sem (ForInStep PUnit))(hf:∀n v u,f (n,v) u=(do Hl env n v;pure (.yield ⟨⟩)))(O:env.scope.kind= .function)
  (n:Str) (v:o6) (r:oj (Str×o6)) (Q:PUnit->o7->Prop) (x:GV s₀ env.locals m env.cells cm s) (hl:env.kindOf n=u_ .local)
  (aa:∀x∈r,env.kindOf x.1=u_ .local∨(env.kindOf x.1=u_ .cell/\(env.cells.lookup x.1).isSome=v_))
  (h:∀s',GV s₀ env.locals (VM env.kindOf ((n,v)::r) m) env.cells (VL env.kindOf ((n,v)::r) cm) s'->0<s'.toks->Q ⟨⟩ s'):V8 M A (VN ((n,v)::r) ⟨⟩ f) Q E s:=by
 rw [Uw,hf];refine A6 (A6 (Fe hl x.toInCall.ns (λh' ac U=>uw ?_) (by rw [O];rfl)))
 have x1:GV s₀ env.locals (λy=>if y=n then u_ v else m y) env.cells cm {s with heap:=h',toks:=s.toks+1}:=by
  refine⟨⟨?_,ac,λb o e=> ?_,x.toInCall.fresh⟩,λk c hc=> ?_,x.apart,x.above⟩
  ·erw[x.toInCall.same,h₁,tk,rfl];exact[h':0]
  ·have:=x.toInCall.keep b o e;exact U.extBut b o (uL (Vm (uA e) x.toInCall.fresh)) (x.toInCall.keep b o e)
  ·exact(x.cell k c hc).sameBut U (vU (x.above k c (mem_of_lookup hc)))
 refine uS (n:=1) (rp (uN _)) (wpAny_bindParams f hf O r _ _ _ _ x1 aa λs' y h1=>h s' ?_ h1);unfold VM VL;rw [A5 hl,A5 hl];exact y
theorem newEnv_tk {M:Gq}{A:oh}{E:o6->o7->Prop}{s:o7}{scope:Vt}{globals:o3}{binds:oj (Str×o6)}{qual:Str}{func:om o3}{O:o6}{builtins:o3}{Q:Env->o7->Prop}
  (aa:scope.kind= .function)
  (ac:∀x∈binds,scope.names.lookup x.1=u_ .local∨(scope.names.lookup x.1=u_ .cell/\((Gz (s.heap.objs.size+1) scope.names []).lookup x.1).isSome=v_))
  (htk:0<s.toks∨∃n v r,binds=(n,v)::r/\scope.names.lookup n=u_ .local)
  (hq:∀en,en=newEnv scope s.heap.objs.size globals (Gz (s.heap.objs.size+1) scope.names []) qual func O U_ builtins->
   ∀s',GV s en.locals (VM en.kindOf binds λ_=>U_) en.cells (VL en.kindOf binds λ_=>U_) s'->0<s'.toks->Q en s'):
  V8 M A (Tn scope globals [] binds qual func O U_ builtins) Q E s:=by
 rcases htk with htk|⟨n,v,r,rfl,hl⟩
 ·exact uS (n:=1) htk (wpAny_newFunctionEnv_cells aa ac λenv he s' x h1=>hq env he s' x h1)
 ·simp only [Tn,UN,UO,if_false];refine A6 (wpAny_alloc ?_);refine A6 (wpAny_layCells _ (λname kind cells=>by cases ad:kind==gP<;>simp [ad]) _ _ _ _ ?_)
  have U:=cellsFrom_ok scope.names (s.heap.push {cls:= .type "frame",data:= .dict #[]}) (s.heap.objs.size+1) [] [λ_ _ hm=>(nomatch hm):t_] (by rw [vt];exact uh _);rw [vt] at U;rw [show({s with heap:=s.heap.push {cls:= .type "frame",data:= .dict #[]}}:o7).heap.objs.size=s.heap.objs.size+1 from vt ..]
  exact A6 (bindParams1 (s₀:=s) (env:=newEnv scope s.heap.objs.size globals (Gz (s.heap.objs.size+1) scope.names []) qual func O U_ builtins)
   _ (λ_ _ _=>rfl) aa n v r _
   ⟨⟨⟨_,_,by rfl⟩,(Heap.Ns.new s.heap (.type "frame")).keeps (FV _ _),λb o e=>FV _ _ b o (ud _ e),uh _⟩,
    λm c hc=>(U.empty m c (mem_of_lookup hc)).1,U.apart,λn c hm=>(U.empty n c hm).2⟩
   hl (λy hy=>ac y (ue _ hy)) λs' x h1=>uw (hq _ rfl s' x h1))
theorem fn_of {CX:CXT}{P:o9}{w:og}{K:o0}{mg:Str->om o6}{base:o8}{k:Nat}{f:o3}{name qual:Str}{O:Arguments}{U:oj Stmt}{scope:Vt}{dV kV doc pm cdv ct oc:o6}{an od:om o3}
  {osl:Array (om o6)}{N ps:oj Str}{sp:Sp} (lk:K.lookup f=u_ ⟨oc,od,.func (PySem.W.fnOf name qual O U scope dV kV doc pm an cdv ct),osl⟩) (af:PySem.W.codeIn K cdv qual=v_) (S:qu N ps scope)
  (len:∀vs H Q E,sp vs H Q E->vs.length=ps.length)
  (aa:∀(A:oh) (outer:oj Env) (s:o7) (H:Hp) (vs:oj V) (Q:VK) (E:XK),Room k (A.deeper (Vf qual scope s.heap.objs.size f cdv))->sp vs H Q E->
   ∃t,PSs (cxOf CX P w K mg base N qual scope f cdv A outer s H E) U t/\t {nx:=λ_ H'=>Q .non H',rt:=Q} (Kn N vs) H):
  FnOk P w K mg base CX (k+1) f (PySem.W.fnOf name qual O U scope dV kV doc pm an cdv ct) ps sp:=by
 refine[len:λA outer s H args us vs Q E hr e0 hb r ad htk=> ?_];have hl:=len _ _ _ _ ad;have KX:K.In s.heap:=e0.mod.kin.keeps λb o e=>(e0.bs b o e).1;have ag:s.heap.NoLimit:=e0.mod.nolimit.keeps λb o e=>(e0.bs b o e).1;have ac:∀y∈ps.zip us,scope.names.lookup y.1=u_ .local∨(scope.names.lookup y.1=u_ .cell/\((Gz (s.heap.objs.size+1) scope.names []).lookup y.1).isSome=v_):=λ⟨n,v⟩ hy=>by
  rcases S.par n (HM hy).1 with q|q
  ·exact .inl q
  ·exact .inr [q:PySem.W.cellsFrom_some _ _ _ (.inl q)]
 have ae:0<s.toks∨∃n v r,ps.zip us=(n,v)::r/\scope.names.lookup n=u_ .local:=by
  rcases htk with h|⟨y,q,e,hy⟩
  ·exact .inl h
  ·have:us.length=ps.length:=by rwa [<-r.length]
   subst e
   match us,this with
   |u::us',_=>exact .inr ⟨y,u,q.zip us',1,hy⟩
 refine codeAny_call_function hr.depth (KX _ _ lk) rfl S.co S.gen rfl (PySem.W.codeRec_of KX af) (hb _ _ _ _ ?_);refine newEnv_tk S.kind ac ae λenv he s1 x ah=> ?_;subst he;refine[ag.keeps x.toInCall.keep:codeAny_func ?_];erw[aa A outer s H vs Q E (hr.deeper _) ad,t,ht,hq];have I:Inv (cxOf CX P w K mg base N qual scope f cdv A outer s H E) [] (Kn N vs) H s1:=inv_start S hr.hd e0 hl r x ah;refine vN (ht [] s1 (Kn N vs) H _ I hq) (λfl s' hs=> ?_) λe s' hs=>hs;have fin:∀{σ':St}{H':Hp}{v:V}{u:o6},Inv (cxOf CX P w K mg base N qual scope f cdv A outer s H E) [] σ' H' s'->RelV v u->Q v H'->CE outer P w H s Q u s':=
  λ{σ' H' v u} J rv q=>⟨v,H',J.os,J.bare,J.tk,J.base,J.hok,rv,q⟩
 cases fl with
 |ret u=>
  erw[hs,v,σ',H',J,rv,q];exact fin J rv q
 |next=>
  erw[hs,σ',H',J,q];exact fin (v:=V.non) (u:=VP) J rfl q
 |brk=>
  erw[hs,_,_,_,q];exact VB q
 |cont=>
  erw[hs,_,_,_,q];exact VB q
section
variable {X:Cx}{x:Str}{p pos:Pos}{e:Expr}{es:oj Expr}{t:TA}{id T:String}{r:oj V->Hp->VK->Prop}
noncomputable def tCB (r:oj V->Hp->VK->Prop)(t:TA):TE:=λσ H Q=>t σ H λvs H1=>r vs H1 Q
theorem qx (hc:Ye X (.builtin id) r)(hg:Gl X x)(hm:X.mg x=U_)(hv:gW x=u_ (.builtin id))(ha:PA X (e::es) t)(hn:x≠"__name__")(O:(x==("__debug__":Str))=V7)
  (he:Vd (e::es) X.env=(V7,eval e X.env)::Vd es X.env) (U:(Vk pos (Vd es X.env)).any (·.1)=V7):PE X (.Call (.Name x p) (e::es) [] pos) (tCB r t):=by
 intro oq s σ H Q I h;refine vZ (XO I hg hm hv ?_ hn O);exact RY (thn (ha pos oq s σ H _ I h) λus s1 ⟨vs,H1,I1,r1,q1⟩=>hc oq s1 σ H1 vs us Q I1 r1 q1) he U
theorem qZ (hc:Ye X (.type T) r)(hg:Gl X x)(hm:X.mg x=U_)(hv:gW x=u_ (.type T))(ha:PA X (e::es) t)(hn:x≠"__name__")(O:(x==("__debug__":Str))=V7)
  (he:Vd (e::es) X.env=(V7,eval e X.env)::Vd es X.env) (U:(Vk pos (Vd es X.env)).any (·.1)=V7):PE X (.Call (.Name x p) (e::es) [] pos) (tCB r t):=by
 intro oq s σ H Q I h;refine vZ (XO I hg hm hv ?_ hn O);exact vf (thn (ha pos oq s σ H _ I h) λus s1 ⟨vs,H1,I1,r1,q1⟩=>hc oq s1 σ H1 vs us Q I1 r1 q1) he U
end
end L2
namespace HT
open PySem PyProof.Rows
section
variable {prog:o9}{w:og}{A:oh}{E:o6->o7->Prop}{s:o7}
theorem cat_tup {t b:o3}{vs ws:oj o6}{Q:o6->o7->Prop}(ht:Gu s.heap t vs.toArray)(hb:Gu s.heap b ws.toArray)(hv:vs≠ [])
  (h1:ws= []->Q (.ref t) s) (h2:ws≠ []->Q (.ref s.heap.objs.size) {s with heap:=s.heap.push {cls:= .type "tuple",data:= .seq (vs++ws).toArray}})
  (hsz:vs.length+ws.length<=Vb):V8 #[w,w] A (VH .Add (.ref t) (.ref b)) Q E s:=by
 erw[id ht,[cls,dd,data,sl],ho,hc,n,hd];erw[id hb,[af,U,ae,aa],O,ac,n2,ad];simp only at hc hd ac ad;subst hc hd ac ad;have e:vs.toArray++ws.toArray=(vs++ws).toArray:=by simp
 by_cases hw:ws= []
 ·exact tD [_:ho:1] [_:O:1] HL Te PySem.F.slot_tuple_add UP (UI _ _)
   (tuple_addW1 t b vs.toArray ws.toArray n n2 dd U sl aa (by simpa using hv) (by simp [hw])) [ho:O:h1 hw]
 ·refine tD [_:ho:1] [_:O:1] HL Te PySem.F.slot_tuple_add UP (UI _ _)
   (tuple_addW2 t b vs.toArray ws.toArray n n2 dd U sl aa (by simpa using hv) (by simpa using hw) (by rwa [uj,uj])) [ho:O:?_]
  rw [e];exact h2 hw
noncomputable def sIx (n d:Nat):om Int->Nat
 |none=>d
 |some v=>if v<0 then(v+(n:Int)).toNat else min v.toNat n
theorem sIx_none (n d:Nat):sIx n d U_=d:=rfl
theorem sIx_nat (n d k:Nat):sIx n d (u_ (k:Int))=min k n:=by
 show(if(k:Int)<0 then((k:Int)+(n:Int)).toNat else min (k:Int).toNat n)=min k n
 rw [A4 (),HP]
theorem sIx_le (n d:Nat)(hd:d<=n)(o:om Int):sIx n d o<=n:=by
 cases o with
 |none=>exact hd
 |some v=>
  show(if v<0 then(v+(n:Int)).toNat else min v.toNat n)<=n
  by_cases O:v<0
  ·rw [A5 O];omega
  ·rw [A4 O];exact Nat.min_le_right _ _
theorem clip_eq (v:Int)(n d:Nat):(if v<0 then max (v+(n:Int)) 0 else min v (n:Int))=((sIx n d (u_ v):Nat):Int):=by
 show(if v<0 then max (v+(n:Int)) 0 else min v (n:Int))=(((if v<0 then(v+(n:Int)).toNat else min v.toNat n):Nat):Int)
 by_cases O:v<0
 ·simp only [A5 O];omega
 ·simp only [A4 O];omega
theorem adjust_gen (lo hi:om Int)(n:Nat):T2 lo hi 1 (n:Int)=(((sIx n 0 lo:Nat):Int),((sIx n n hi:Nat):Int)):=by
 have h1:¬((1:Int)<0):=by omega
 unfold T2;simp only [h1,if_false];refine Prod.ext ?_ ?_
 ·cases lo with
  |none=>rfl
  |some v=>exact clip_eq v n 0
 ·cases hi with
  |none=>rfl
  |some v=>exact clip_eq v n n
theorem places_gen (i j:Nat):HF (i:Int) (j:Int) 1=j-i:=by
 unfold HF;have h1:(1:Int)>0:=by omega
 simp only [h1,V6,TD];split<;>omega
theorem kf {v:o6}{o:om Int}{Q:om Int->o7->Prop}(p:VO v o)(h:Q o s):V8 #[w,w] A (pD v) Q E s:=by
 cases p with
 |none=>exact r_ h
 |int i t=>exact slicePart_int h
theorem jW {sl:o3}{vl vu:o6}{lo hi:om Int}{n:Nat}{Q:Int×Int×Nat->o7->Prop}(hs:s.heap.IsSliceOf sl vl vu .none)(pl:VO vl lo)(pu:VO vu hi)
  (h:Q (((sIx n 0 lo:Nat):Int),1,sIx n n hi-sIx n 0 lo) s):V8 #[w,w] A (Fv (.ref sl) (pure (n:Int))) Q E s:=by
 erw[id hs,os,O,aa,U];unfold Fv pJ;refine A6 (A6 (vE O U (x:=vl) rfl (A6 (vE O U (x:=vu) rfl (A6 (vE O U (x:= .none) rfl (uw ?_)))))));refine A6 (r_ ?_);show V8 _ _ (if((1:Int)==0)=v_ then _ else _) _ _ s
 rw [A4 ()]
 refine A6 (kf pl (A6 (kf pu (A6 (uw ?_)))));show V8 _ _ (match T2 lo hi 1 (n:Int) with|(lo,hi)=>pure (lo,(1:Int),HF lo hi 1)) _ _ s
 rw [adjust_gen lo hi n];show V8 _ _ (pure (((sIx n 0 lo:Nat):Int),(1:Int),HF ((sIx n 0 lo:Nat):Int) ((sIx n n hi:Nat):Int) 1)) _ _ s;rw [places_gen];exact uw h
theorem pick_gen (xs:Array o6)(i k:Nat):((Vi k).filterMap λ(m:Nat)=>xs[((i:Int)+(m:Int)*1).toNat]?).toArray=((xs.toList.drop i).take k).toArray:=by
 have e:(λ(m:Nat)=>xs[((i:Int)+(m:Int)*1).toNat]?)=λm=>xs[i+m]? :=by
  funext m
  have:((i:Int)+(m:Int)*1).toNat=i+m:=by omega
  rw [this]
 rw [e];have:=pick_run xs i k;rw [List.filterMap_map] at this;have O:((λx=>xs[x]?)∘λx=>i+x)=λm=>xs[i+m]? :=rfl;rw [O] at this;rw [this]
theorem getItem_tuple_cut {t sl:o3}{items:Array o6}{vl vu:o6}{lo hi:om Int}{Q:o6->o7->Prop}(U:Gu s.heap t items)(hs:s.heap.IsSliceOf sl vl vu .none)(pl:VO vl lo)(pu:VO vu hi)
  (hw:¬(sIx items.size 0 lo=0/\sIx items.size items.size hi=items.size))
  (h:Q (.ref s.heap.objs.size) {s with heap:=s.heap.push {cls:= .type "tuple",data:= .seq ((items.toList.drop (sIx items.size 0 lo)).take (sIx items.size items.size hi-sIx items.size 0 lo)).toArray}})
  (hsz:items.size<=Vb):V8 #[w,w] A (VI (.ref t) (.ref sl)) Q E s:=by
 have O:sizeOk (.seq ((items.toList.drop (sIx items.size 0 lo)).take (sIx items.size items.size hi-sIx items.size 0 lo)).toArray):=by
  show((items.toList.drop (sIx items.size 0 lo)).take (sIx items.size items.size hi-sIx items.size 0 lo)).toArray.size<=Vb;rw [uj,vR,vY,uU];omega
 have hj:sIx items.size items.size hi<=items.size:=sIx_le _ _ (uh _) hi;erw[id hs,os,aa,ac,af];have ad:s.TypeIs (.ref sl) "slice":=[os:aa:ac];unfold VI
 try with_reducible refine VF ?_
 first|refine A6 (uw ?_)|skip
 refine A6 (Rl U.typeIs () ?_)
 refine A6 (vF (name:=G9 "__getitem__") U.typeIs vI
  (vS vI U.typeIs FC ?_ (RM _ _)))
 show V8 _ _ (rO (.ref t)>>=_) _ _ s;refine A6 (TW U ?_);refine A6 (VZ ad ?_);rw [A5 ()]
 refine A6 (jW hs pl pu ?_);have ae:¬((((sIx items.size 0 lo:Nat):Int)==0&&(1:Int)==1&&(sIx items.size items.size hi-sIx items.size 0 lo)==items.size)=v_):=by
  intro q;rw [ur,ur] at q;have q1:((sIx items.size 0 lo:Nat):Int)=0:=eq_of_beq q.1.1;have q2:sIx items.size items.size hi-sIx items.size 0 lo=items.size:=eq_of_beq q.2;exact hw [():()]
 show V8 _ _ (if(((sIx items.size 0 lo:Nat):Int)==0&&(1:Int)==1&&(sIx items.size items.size hi-sIx items.size 0 lo)==items.size)=v_ then _ else _) _ _ s
 rw [A4 ae,pick_gen]
 first
  |exact A6 (m:=GD _) (vw (uw ⟨0,uw h⟩) O)
  |exact A6 (m:=GD _) (vw (A6 (uw (uw ⟨0,uw h⟩))) O)
  |exact A6 (A6 (m:=GD _) (vw (uw (uw ⟨0,uw h⟩)) O))
  |exact A6 (A6 (m:=GD _) (vw (uw ⟨0,uw h⟩) O))
end
end HT
namespace L2
open PySem PySem.Spec PyProof.Rows
noncomputable abbrev TO:=St->Hp->(om Int->Hp->Prop)->Prop
noncomputable def PO (X:Cx)(e:om Expr)(t:TO):Prop:=
 ∀(oq:oj (o3×Obj)) (s:o7) (σ:St) (H:Hp) (Q:om Int->Hp->Prop),Inv X oq σ H s->t σ H Q->
  V8 #[X,X] X.A (evalPart e X.env) (λu s'=>∃o H',Inv X oq σ H' s'/\VO u o/\Q o H') X.xe s
noncomputable def tNoPart:TO:=λ_ H Q=>Q U_ H
inductive ItPart (Q:(Option Int->Hp->Prop)) (x:V) (H1:Hp):Prop
 |mk (i:_) (_:x= .int i) (_:Q (u_ i) H1)
noncomputable def tPart (t:TE):TO:=λσ H Q=>t σ H λx H1=>ItPart Q x H1
theorem intsAre_of {ns:oj Int}:∀{us:oj o6},Vals (ns.map V.int) us->Gf us ns:=by
 induction ns with
 |nil=>intro us r;rw [U0] at r;cases r;exact .nil
 |cons n ns O=>
  intro us r;rw [uq] at r;cases r with
  |cons U r2=>
   erw[U,t,e];subst e;exact .cons n t (O r2)
section
variable {X:Cx}{e:Expr}{te:TE}{lo hi:om Expr}{tl th:TO}{pos p2:Pos}
theorem kz:PO X U_ tNoPart:=by
 intro oq s σ H Q I h;rw [tR];exact uw ⟨U_,H,I,.none,h⟩
theorem ZK (h:PE X e te):PO X (u_ e) (tPart te):=by
 intro oq s σ H Q I O;rw [Rz];refine thn (h oq s σ H _ I O) λu s1 zq=> ?_;erw[zq,x,H1,U,r1,q1];erw[q1,i,rfl,q];erw[r1,t,rfl];exact⟨u_ i,H1,U,.int i t,q⟩
noncomputable def SlR (X:Cx)(r:V->om Int->om Int->Hp->VK->Prop):Prop:=
 ∀(oq:oj (o3×Obj)) (s:o7) (σ:St) (H:Hp) (x:V) (v vl vu:o6) (lo hi:om Int) (sl:o3) (Q:VK),Inv X oq σ H s->RelV x v->s.heap.IsSliceOf sl vl vu .none->VO vl lo->VO vu hi->r x lo hi H Q->
  ∃T id,GE (.type T) "__getitem__"=pure (u_ (.builtin id))/\s.TypeIs v T/\V8 #[X,X] X.A (VI v (.ref sl)) (EP X oq σ Q) X.xe s
theorem SlR.or {r O:V->om Int->om Int->Hp->VK->Prop}(h:SlR X r)(h':SlR X O):SlR X (λx lo hi H Q=>r x lo hi H Q∨O x lo hi H Q):=by
 intro oq s σ H x v U vu lo hi sl Q I rx hs pl pu q;rcases q with q|q
 ·exact h oq s σ H x v U vu lo hi sl Q I rx hs pl pu q
 ·exact h' oq s σ H x v U vu lo hi sl Q I rx hs pl pu q
noncomputable def tSl (r:V->om Int->om Int->Hp->VK->Prop)(te:TE)(tl th:TO):TE:=λσ H Q=>te σ H λx H1=>tl σ H1 λl H2=>th σ H2 λu H3=>r x l u H3 Q
theorem Zx {r:V->om Int->om Int->Hp->VK->Prop}(hr:SlR X r)(he:PE X e te)(hl:PO X lo tl)(hu:PO X hi th):PE X (.Subscript e (.Slice lo hi U_ p2) pos) (tSl r te tl th):=by
 intro oq s σ H Q I h;refine Ha (thn (he oq s σ H _ I h) λv s1 zq=> ?_);erw[zq,x,H1,I1,r1,q1];refine FA (thn (hl oq s1 σ H1 _ I1 q1) λU s2 ⟨l,H2,I2,pl,q2⟩=>thn (hu oq s2 σ H2 _ I2 q2) λvu O zq=> ?_);erw[zq,u,H3,I3,pu,q3];rw [tR];refine uw ?_;have I4:Inv X oq σ H3 {O with heap:=O.heap.push {cls:= .type "slice",data:= .fields #[U,vu,.none]}}:=I3.kept (t':=O.toks) λb ob q=>ud _ q
 erw[hr oq {O with heap:=O.heap.push {cls:= .type "slice",data:= .fields #[U,vu,.none]}} σ H3 x v U vu l u O.heap.objs.size Q I4 r1 (Ry ..) pl pu q3,T,id,hT,ht,hg]
 show V8 #[X,X] X.A (HH e (.Slice lo hi U_ p2) v (.ref O.heap.objs.size)) (EP X oq σ Q) X.xe {O with heap:=O.heap.push {cls:= .type "slice",data:= .fields #[U,vu,.none]}}
 exact Ho (ops:= [.ref O.heap.objs.size,v]) ht hT hg #[w]
noncomputable def cutV (xs:oj V)(lo hi:om Int):oj V:=(xs.drop (HT.sIx xs.length 0 lo)).take (HT.sIx xs.length xs.length hi-HT.sIx xs.length 0 lo)
theorem wJ (xs:oj V)(lo hi:om Int):(cutV xs lo hi).length<=xs.length:=by
 unfold cutV;rw [vR,vY];omega
inductive rSlT (K:PySem.W.Frag) (x:V) (lo:Option Int) (hi:Option Int) (H:Hp) (Q:VK):Prop
 |mk (a:_) (xs:_) (_:x= .ref a) (_:SqT K H a xs) (_:¬(HT.sIx xs.length 0 lo=0/\HT.sIx xs.length xs.length hi=xs.length)) (_:∀p,H p=U_->Q (.ref p) (upd H p (.tup (cutV xs lo hi))))
theorem sl_tup:SlR X (rSlT X.K):=by
 intro oq s σ H x v vl vu lo hi sl Q I rx hs pl pu h;erw[h,a,xs,rfl,hx,hw,q];cases rx;erw[I.tuple hx,its,r,U,hz];have O:its.toArray.size=xs.length:=by rw [uj];exact r.length.symm
 exists "tuple",_,PyProof.Rows.slot_tuple_getitem.lookup,U.typeIs;refine HT.getItem_tuple_cut U hs pl pu (by rwa [O]) ?_ (by rwa [O])
 rw [O];refine⟨.ref s.heap.objs.size,_,I.laid (t':=s.toks) (o:= .tup (cutV xs lo hi)) (λb ob q=>ud _ q) (uh _) ?_,1,q _ (I.hok.fresh (uh _))⟩;exact⟨uI (wJ xs lo hi) hz,_,(r.drop (HT.sIx xs.length 0 lo)).take (HT.sIx xs.length xs.length hi-HT.sIx xs.length 0 lo),GK _ _⟩
inductive rCatT (K:PySem.W.Frag) (x:V) (y:V) (H:Hp) (Q:VK):Prop
 |mk (a:_) (b:_) (xs:_) (ys:_) (_:x= .ref a) (_:y= .ref b) (_:SqT K H a xs) (_:SqT K H b ys) (_:xs≠ []) (_:xs.length+ys.length<=Vb) (_:(ys= []->Q (.ref a) H)) (_:(ys≠ []->∀p,H p=U_->Q (.ref p) (upd H p (.tup (xs++ys)))))
variable {xs:oj V}{us:oj o6}
theorem Vals.nil_iff (r:Vals xs us):us= []↔xs= []:=by
 cases r with
 |nil=>simp
 |cons _ _=>simp
theorem op_catT:OpR X (VH .Add) (rCatT X.K):=by
 intro oq s σ H x y v u Q I rx ry h;erw[h,a,b,xs,ys,rfl,rfl,ha,hb,hx,hz,q1,q2];cases rx;cases ry;erw[I.tuple ha,its,U,p1,_];erw[I.tuple hb,aa,O,p2,_];refine HT.cat_tup p1 p2 (λz=>hx (U.nil_iff.mp z)) (λz=>⟨.ref a,H,I,1,q1 (O.nil_iff.mp z)⟩) (λz=> ?_) (by rwa [<-U.length,<-O.length])
 refine⟨.ref s.heap.objs.size,_,I.laid (t':=s.toks) (o:= .tup (xs++ys)) (λb ob q=>ud _ q) (uh _) ?_,1,q2 (λw=>z (O.nil_iff.mpr w)) _ (I.hok.fresh (uh _))⟩;exact⟨by rwa [uu],_,U.append O,GK _ _⟩
end
noncomputable def ixN (n:Nat)(i:Int):om Nat:=if 0<=i then(if i<n then u_ i.toNat else U_) else if-(n:Int)<=i then u_ (i+n).toNat else U_
noncomputable def atI {α:Type}(xs:oj α)(i:Int):om α:=(ixN xs.length i).bind λj=>xs[j]?
variable {n j:Nat}{i:Int}
theorem ixN_seq (h:ixN n i=u_ j):seqIndex? i n=u_ j/\j<n/\ -(n:Int)<=i/\i<n:=by
 unfold ixN at h;by_cases h0:0<=i
 ·rw [A5 h0] at h;by_cases h1:i<n
  ·rw [A5 h1] at h;have e:i.toNat=j:=uF h;exact⟨by rw [tY h0 h1,e],(),(),h1⟩
  ·rw [A4 h1] at h;cases h
 ·rw [A4 h0] at h;by_cases h1: -(n:Int)<=i
  ·rw [A5 h1] at h;have e:(i+n).toNat=j:=uF h;exact⟨by rw [tW () h1,e],(),h1,()⟩
  ·rw [A4 h1] at h;cases h
theorem KA {α:Type}{xs:oj α}{v:α}(h:atI xs i=u_ v):∃j,seqIndex? i xs.length=u_ j/\xs[j]? =u_ v/\j<xs.length/\ -(xs.length:Int)<=i/\i<xs.length:=by
 unfold atI at h;cases e:ixN xs.length i with
 |none=>rw [e] at h;cases h
 |some j=>
  rw [e] at h;erw[ixN_seq e,h1,h2,h3,h4];exact⟨j,h1,h,h2,h3,h4⟩
theorem Qm {α:Type}{xs:oj α}{v:α}(h:xs[j]? =u_ v):atI xs (j:Int)=u_ v:=by
 have O:j<xs.length:=(Ae.mp h).1;have e:ixN xs.length (j:Int)=u_ j:=by
  unfold ixN;rw [A5 (),A5 ()];simp
 unfold atI;rw [e];exact h
theorem kC {α:Type}(xs:oj α)(v:α):atI (xs++ [v]) (-1)=u_ v:=by
 have O:(xs++ [v]).length=xs.length+1:=by simp
 have e:ixN (xs++ [v]).length (-1)=u_ xs.length:=by
  unfold ixN;rw [O,A4 (),A5 ()]
  congr 1
  omega
 unfold atI;rw [e];show(xs++ [v])[xs.length]? =u_ v;simp
noncomputable def PlainIx (b:Expr):Prop:=∀o i,GJ b V7 o i=HJ [o,i] (VI o i)
noncomputable def IxR (X:Cx)(r:R2):Prop:=
 ∀(value slice:Expr) (oq:oj (o3×Obj)) (s:o7) (σ:St) (H:Hp) (x y:V) (v u:o6) (Q:VK),Inv X oq σ H s->RelV x v->RelV y u->r x y H Q->
  GJ slice V7 v u=HJ [v,u] (VI v u)->V8 #[X,X] X.A (HH value slice v u) (EP X oq σ Q) X.xe s
noncomputable def MtR (X:Cx)(id:String)(r:V->oj V->Hp->VK->Prop):Prop:=
 ∀(oq:oj (o3×Obj)) (s:o7) (σ:St) (H:Hp) (x:V) (xs:oj V) (v:o6) (us:oj o6) (Q:VK),Inv X oq σ H s->RelV x v->Vals xs us->r x xs H Q->
  V8 #[X,X] X.A (call (.builtin id) (v::us)) (EP X oq σ Q) X.xe s
section
variable {X:Cx}{a b:Expr}{ta tb:TE}{pos:Pos}
theorem IxR.or {r O:R2}(h:IxR X r)(h':IxR X O):IxR X (λx y H Q=>r x y H Q∨O x y H Q):=by
 intro value slice oq s σ H x y v u Q I U ry q hs;rcases q with q|q
 ·exact h value slice oq s σ H x y v u Q I U ry q hs
 ·exact h' value slice oq s σ H x y v u Q I U ry q hs
theorem qH {r:R2}(O:IxR X r)(ha:PE X a ta)(U:PE X b tb)(hs:PlainIx b):PE X (.Subscript a b pos) (tOp r ta tb):=by
 intro oq s σ H Q I h;exact Ha (binT ha U I h λv u s2 x y H2 I2 rx ry q=>O a b oq s2 σ H2 x y v u Q I2 rx ry q (hs _ _))
inductive rIxL (K:PySem.W.Frag) (x:V) (y:V) (H:Hp) (Q:VK):Prop
 |mk (p:_) (xs:_) (i:_) (v:_) (_:x= .ref p) (_:y= .int i) (_:SqL K H p xs) (_:atI xs i=u_ v) (_:Q v H)
inductive rIxT (K:PySem.W.Frag) (x:V) (y:V) (H:Hp) (Q:VK):Prop
 |mk (p:_) (xs:_) (i:_) (v:_) (_:x= .ref p) (_:y= .int i) (_:SqT K H p xs) (_:atI xs i=u_ v) (_:Q v H)
inductive rIxS (x:V) (y:V) (H:Hp) (Q:VK):Prop
 |mk (z:_) (i:_) (c:_) (_:x= .str z) (_:y= .int i) (_:z.length<=Vb) (_:atI z.cps.toList i=u_ c) (_:Q (.str ⟨#[c]⟩) H)
theorem yK:IxR X (rIxL X.K):=by
 intro value slice oq s σ H x y v u Q I rx ry h hs;erw[h,p,xs,i,z,rfl,rfl,hq,he,q];cases rx;erw[ry,t,rfl];erw[I.list hq,its,r,pl,hz];erw[KA he,j,h1,h2,h3,h4,h5];erw[r.get h2,w,ew,O];have hl:=r.length;have hn:=Zh;have fin:EP X oq σ Q w s:=⟨z,H,I,O,q⟩;by_cases h0:0<=i
 ·have U:i.toNat=j:=by
   rw [tY h0 h5] at h1;exact uF h1
  exact item_listR pl.isList h0 () (by rw [U];simpa using ew) fin hs
 ·have U:(i+(its.toArray.size:Int)).toNat=j:=by
   rw [tW () h4] at h1
   rw [uj,<-hl];exact uF h1
  exact Fo (x:=w) pl.isList.typeIs slot_list_getitem.lookup
   (wpAny_getItem_list_neg (Q:=λr s'=>r=w/\EP X oq σ Q r s') pl.isList () (by rw [uj]<;>omega) () (by rw [U];simpa using ew) [1:fin]) hs
theorem qF:IxR X (rIxT X.K):=by
 intro value slice oq s σ H x y v u Q I U ry h hs;erw[h,p,xs,i,z,rfl,rfl,hq,he,q];cases U;erw[ry,t,rfl];erw[I.tuple hq,its,r,pl,hz];erw[KA he,j,h1,h2,h3,h4,h5];erw[r.get h2,w,ew,O];have hl:=r.length;have hn:=Zh;have fin:EP X oq σ Q w s:=⟨z,H,I,O,q⟩;exact Fo (x:=w) pl.typeIs slot_tuple_getitem.lookup
  (getItem_tuple (j:=j) (Q:=λr s'=>r=w/\EP X oq σ Q r s') pl () () (by rwa [uj,<-hl]) (by simpa using ew) [1:fin]) hs
theorem ix_str:IxR X rIxS:=by
 intro value slice oq s σ H x y v u Q I O U h hs;erw[h,z,i,c,rfl,rfl,hz,he,q];erw[O,t,rfl];erw[U,t',rfl];erw[KA he,j,h1,h2,h3,h4,h5];have hl:z.cps.toList.length=z.length:=by simp [VV]
 rw [hl] at h1 h4 h5;have hn:=Zh;exact Ho (vP s z t) slot_str_getitem.lookup (getItem_str (c:=c) (by
  have e1:decide (i< -(2^63:Int))=false:=uc ()
  have e2:decide (i≥2^63)=false:=uc ()
  rw [e1,e2,Bool.or_false]) (by rw [h1];simpa using h2) ⟨.str ⟨#[c]⟩,H,I.tok _,⟨0⟩,q⟩) hs
noncomputable def rIx (K:o0):R2:=λx y H Q=>rIxL K x y H Q∨rIxT K x y H Q∨rIxS x y H Q
theorem JS:IxR X (rIx X.K):=yK.or (qF.or ix_str)
theorem mapSeq_set (its:oj o6)(n j:Nat)(u:o6):Gi (·.setIfInBounds j u) {cls:= .type "list",data:= .seq its.toArray n}={cls:= .type "list",data:= .seq (its.set j u).toArray n}:=by
 simp [Gi]
theorem Inv.lst {oq:oj (o3×Obj)}{σ:St}{H:Hp}{s:o7}{p:o3}{xs:oj V}(I:Inv X oq σ H s)(h:H p=u_ (.lst xs)):
  ∃(its:oj o6) (n:Nat),Vals xs its/\s.heap.get? p=u_ {cls:= .type "list",data:= .seq its.toArray n}/\xs.length<=sizeLine:=by
 erw[I.hok p _ h,z,its,n,r,e];exact⟨its,n,r,e,z⟩
theorem Inv.lstUpd {oq:oj (o3×Obj)}{σ:St}{H:Hp}{s:o7}{p:o3}{xs ys:oj V}{its its':oj o6}{n O:Nat}{f:Obj->Obj}(I:Inv X oq σ H s)(h:H p=u_ (.lst xs))
  (ho:s.heap.get? p=u_ {cls:= .type "list",data:= .seq its.toArray n}) (U:f {cls:= .type "list",data:= .seq its.toArray n}={cls:= .type "list",data:= .seq its'.toArray O}) (r:Vals ys its') (hz:ys.length<=Vb) (t:Nat) (ht:0<t:=by ac_rfl):
  Inv X oq σ (upd H p (.lst ys)) {s with heap:=s.heap.update p f,toks:=t}:=by
 have e:(s.heap.update p f).get? p=u_ {cls:= .type "list",data:= .seq its'.toArray O}:=by
  rw [Hv f ho (by rw [U]<;>rfl),U]
 refine I.write (x:=p) (e:=p) (by rw [h];trivial) (.inl rfl) (λb u hb q=>(Uk _ _ (Uv hb)).trans q) [_:e] ?_
 exact⟨hz,its',O,r,e⟩
inductive rSetL (o:V) (i:V) (v:V) (H:Hp) (Q:(Hp->Prop)):Prop
 |mk (p:_) (xs:_) (k:_) (j:_) (_:o= .ref p) (_:i= .int k) (_:H p=u_ (.lst xs)) (_:ixN xs.length k=u_ j) (_:Q (upd H p (.lst (xs.set j v))))
theorem set_list:PSet X rSetL:=by
 intro oq s σ H o i v ov iv u Q I ro ri rv h;erw[h,p,xs,k,j,rfl,rfl,hp,hj,q];cases ro;erw[ri,t,rfl];erw[I.lst hp,its,n,r,O,hz];erw[ixN_seq hj,h1,h2,h3,h4];have U:=r.length;have hn:=Zh;have I':Inv X oq σ (upd H p (.lst (xs.set j v))) {s with heap:=s.heap.update p (Gi (·.setIfInBounds j u))}:=
  I.lstUpd hp O (mapSeq_set its n j u) (r.set rv j) (by rwa [List.length_set]) s.toks
 by_cases h0:0<=k
 ·have hk:k.toNat=j:=by
   rw [tY h0 h4] at h1;exact uF h1
  exact PySem.W.ki_setAt O h0 () (by rwa [uj,<-U]) (by rw [hk];exact[_:I':q])
 ·have hk:(k+(its.toArray.size:Int)).toNat=j:=by
   rw [tW () h3] at h1
   rw [uj,<-U];exact uF h1
  exact PySem.W.ki_setBack O () (by rwa [uj,<-U]) () (by rw [hk];exact[_:I':q])
theorem slice_bounds (lo hi:om Int)(n:Nat):(VQ lo hi U_ n).1=((HT.sIx n 0 lo:Nat):Int)/\(VQ lo hi U_ n).2.1=((HT.sIx n n hi:Nat):Int)/\(VQ lo hi U_ n).2.2=1:=by
 refine[?_:?_:1]
 ·cases lo with
  |none=>simp [VQ,HT.sIx]
  |some i=>
   simp only [VQ,HT.sIx,FD,show(1:Int)>0 by decide,V6]
   by_cases h:i<0
   ·simp only [h,V6]<;>omega
   ·simp only [h,if_false]<;>omega
 ·cases hi with
  |none=>simp [VQ,HT.sIx]
  |some i=>
   simp only [VQ,HT.sIx,FD,show(1:Int)>0 by decide,V6]
   by_cases h:i<0
   ·simp only [h,V6]<;>omega
   ·simp only [h,if_false]<;>omega
theorem kt (its:oj o6)(lo hi:om Int):HS its.toArray lo hi U_=((its.drop (HT.sIx its.length 0 lo)).take (HT.sIx its.length its.length hi-HT.sIx its.length 0 lo)).toArray:=by
 erw[slice_bounds lo hi its.toArray.size,h1,h2,h3];unfold HS;rw [h1,h2,h3];simp only [sliceRange_one,pick_run,uj]<;>rfl
inductive rSlL (K:PySem.W.Frag) (x:V) (lo:Option Int) (hi:Option Int) (H:Hp) (Q:VK):Prop
 |mk (a:_) (xs:_) (_:x= .ref a) (_:SqL K H a xs) (_:∀p,H p=U_->Q (.ref p) (upd H p (.lst (cutV xs lo hi))))
theorem sl_list:SlR X (rSlL X.K):=by
 intro oq s σ H x v vl vu lo hi sl Q I rx hs pl pu h;erw[h,a,xs,rfl,hx,q];cases rx;erw[I.list hx,its,r,U,hz];have O:=r.length;exists "list",_,slot_list_getitem.lookup,U.isList.typeIs;refine RU U.isList hs pl pu .none (by simp) ?_ (by rw [uj]<;>omega)
 rw [kt,<-O];refine⟨.ref s.heap.objs.size,_,I.laid (t':=s.toks) (o:= .lst (cutV xs lo hi)) (λb ob q=>ud _ q) (uh _) ?_,1,q _ (I.hok.fresh (uh _))⟩;exact⟨uI (wJ xs lo hi) hz,_,(0),(r.drop (HT.sIx xs.length 0 lo)).take (HT.sIx xs.length xs.length hi-HT.sIx xs.length 0 lo),uC _ rfl⟩
noncomputable def Zo:V->Bool
 | .non=>v_
 | .bl _=>v_
 | .int _=>v_
 | .str _=>v_
 |_=>V7
noncomputable def eqV:V->V->Bool
 | .non,.non=>v_
 | .bl a,.bl b=>a==b
 | .bl a,.int b=>(if a then 1 else 0)==b
 | .int a,.bl b=>a==(if b then 1 else 0)
 | .int a,.int b=>a==b
 | .str a,.str b=>a==b
 |_,_=>V7
variable {A:oh}{s:o7}{y:V}{u:o6}
theorem eqAt_V {x:V}{v:o6}(U:RelV y u)(O:RelV x v)(fy:Zo y=v_)(fx:Zo x=v_):Vr A s u v (eqV y x):=by
 cases y with
 |non=>
  cases U;cases x with
  |non=>cases O;exact HE _
  |bl b=>cases O;exact pk b
  |int b=>erw[O,t,rfl];exact F_ b t
  |str b=>erw[O,t,rfl];exact rB b t
  |_=>exact absurd (show V7=v_ from fx) u9
 |bl a=>
  cases U;cases x with
  |non=>cases O;exact pC a
  |bl b=>cases O;exact pS a b
  |int b=>erw[O,t,rfl];exact pN a b t
  |str b=>erw[O,t,rfl];exact pq a b t
  |_=>exact absurd (show V7=v_ from fx) u9
 |int a=>
  erw[U,t',rfl];cases x with
  |non=>cases O;exact Tv a t'
  |bl b=>cases O;exact pQ a t' b
  |int b=>erw[O,t,rfl];exact tP a t' b t
  |str b=>erw[O,t,rfl];exact UK a t' b t
  |_=>exact absurd (show V7=v_ from fx) u9
 |str a=>
  erw[U,t',rfl];cases x with
  |non=>cases O;exact Tz a t'
  |bl b=>cases O;exact pM a t' b
  |int b=>erw[O,t,rfl];exact UL a t' b t
  |str b=>erw[O,t,rfl];exact Td a t' b t
  |_=>exact absurd (show V7=v_ from fx) u9
 |_=>exact absurd (show V7=v_ from fy) u9
noncomputable def eqU (x:V)(u:o6):Bool:=match u with
 | .none=>eqV .non x
 | .bool b=>eqV (.bl b) x
 | .int i _=>eqV (.int i) x
 | .str z _=>eqV (.str z) x
 |_=>V7
theorem eqU_of {x:V}(r:RelV y u)(f:Zo y=v_):eqU x u=eqV y x:=by
 cases y with
 |non=>cases r;rfl
 |bl b=>cases r;rfl
 |int i=>erw[r,t,rfl];rfl
 |str z=>erw[r,t,rfl];rfl
 |_=>exact absurd (show V7=v_ from f) u9
theorem any_eqU {x:V}:∀{xs:oj V}{us:oj o6},Vals xs us->xs.all Zo=v_->us.any (eqU x)=xs.any λy=>eqV y x
 |_,_,.nil,_=>rfl
 |y::xs,u::us,.cons r t,f=>by
  rw [vz,ur] at f;rw [UA,UA,eqU_of r f.1,any_eqU t f.2]
theorem KI {A:oh}{s:o7}{x:V}{v:o6}(U:RelV x v)(fx:Zo x=v_):∀{xs:oj V}{us:oj o6},Vals xs us->xs.all Zo=v_->∀u∈us,Vr A s u v (eqU x u)
 |_,_,.nil,_=>λu O=>by cases O
 |y::xs,u::us,.cons r t,f=>λu' O=>by
  rw [vz,ur] at f;rcases A8.mp O with rfl|O
  ·rw [eqU_of r f.1];exact eqAt_V r U f.1 fx
  ·exact KI U fx t f.2 u' O
noncomputable def inV (x:V)(xs:oj V):Bool:=xs.any λy=>eqV y x
inductive rIn (K:PySem.W.Frag) (neg:Bool) (x:V) (y:V) (H:Hp) (Q:VK):Prop
 |mk (p:_) (xs:_) (_:y= .ref p) (_:(SqL K H p xs∨SqT K H p xs)) (_:Zo x=v_) (_:xs.all Zo=v_) (_:Q (.bl (if neg then !inV x xs else inV x xs)) H)
theorem QZ:OpR X (Vl .In) (rIn X.K V7):=by
 intro oq s σ H x y v u Q I rx ry h;erw[h,p,xs,rfl,O,fx,fs,q];cases ry;rcases O with O|O
 ·erw[I.list O,its,r,pl,hz];refine Rs (eqU x) pl.isList (λw U=>KI rx fx r fs w (by simpa using U)) ⟨.bl _,H,I,1,?_⟩
  rw [show its.toArray.any (eqU x)=its.any (eqU x) by simp,any_eqU r fs]
  exact q
 ·erw[I.tuple O,its,r,pl,hz];refine TJ (eqU x) pl (λw U=>KI rx fx r fs w (by simpa using U)) ⟨.bl _,H,I,1,?_⟩
  rw [show its.toArray.any (eqU x)=its.any (eqU x) by simp,any_eqU r fs]
  exact q
theorem op_notIn_str:OpR X (Vl .NotIn) (λx y H Q=>∃i j,x= .str i/\y= .str j/\Q (.bl (!(!(GR j i 0 j.length 1).isEmpty))) H):=by
 intro oq s σ H x y v u Q I O U h;erw[h,i,j,rfl,rfl,q];erw[O,t,rfl];erw[U,t',rfl];exact notIn_str ⟨.bl _,H,I,1,q⟩
theorem qM:Ye X (.builtin "len") (λxs H Q=>∃p ys,xs= [.ref p]/\(SqL X.K H p ys∨SqT X.K H p ys)/\Q (.int ys.length) H):=by
 intro oq s σ H xs us Q I r h;erw[h,p,ys,rfl,U,q];erw[jH r,u,rfl,rx];cases rx;have hn:=Zh;rcases U with U|U
 ·erw[I.list U,its,r',pl,hz];have O:=r'.length;exact Ru pl.isList (by simp only [uj]<;>omega) ⟨.int ys.length,H,I.tok _,⟨s.toks+1,by rw [uj,O]⟩,q⟩
 ·erw[I.tuple U,its,r',pl,hz];have O:=r'.length;exact len_tuple pl (by simp only [uj]<;>omega) ⟨.int ys.length,H,I.tok _,⟨s.toks+1,by rw [uj,O]⟩,q⟩
theorem Jc:Ye X (.builtin "len") (λxs H Q=>∃z,xs= [.str z]/\z.length<=Vb/\Q (.int z.length) H):=by
 intro oq s σ H xs us Q I r h;erw[h,z,rfl,O,q];erw[jH r,u,rfl,t,rfl];have hn:=Zh;exact len_str () ⟨.int z.length,H,I.tok _,⟨0⟩,q⟩
theorem Qg:Ye X (.type "tuple") (λxs H Q=>∃p ys,xs= [.ref p]/\((SqL X.K H p ys/\∀l,H l=U_->Q (.ref l) (upd H l (.tup ys)))∨(SqT X.K H p ys/\Q (.ref p) H))):=by
 intro oq s σ H xs us Q I r h;erw[h,p,ys,rfl,h];erw[jH r,u,rfl,rx];cases rx;rcases h with⟨O,q⟩|⟨O,q⟩
 ·erw[I.list O,its,U,pl,hz];have aa:=U.length;refine call_tuple_list pl.isList (λh' kp=> ?_) (by simp only [uj]<;>omega)
  have I1:Inv X oq σ H {s with heap:=h'}:=I.kept (t':=s.toks) kp
  have I2:Inv X oq σ (upd H h'.objs.size (.tup ys)) {s with heap:=h'.push {cls:= .type "tuple",data:= .seq its.toArray}}:=
   I1.laid (t':=s.toks) (λb o e=>ud _ e) (uh _) (show yr X.prog X.w _ _ _ (.tup ys) from⟨hz,its,U,GK _ _⟩)
  exact⟨.ref h'.objs.size,_,I2,1,q _ (I1.hok.fresh (uh _))⟩
 ·erw[I.tuple O,its,U,pl,hz];exact call_tuple_same pl ⟨.ref p,H,I,1,q⟩
noncomputable def tyV (K:o0)(T:String)(x:V)(H:Hp):Prop:=match x with
 | .str _=>T="str"
 | .int _=>T="int"
 | .ref p=>(T="list"/\∃xs,SqL K H p xs)∨(T="tuple"/\∃o,K.lookup p=u_ o/\o.cls= .type "tuple"/\o.dict=U_)∨
   (T="dict"/\((∃kvs,H p=u_ (.dK kvs))∨∃kvs,H p=u_ (.dT kvs)))∨(T="set"/\∃S n,H p=u_ (.set S n))
 |_=>False
variable {oq:oj (o3×Obj)}{σ:St}{H:Hp}
theorem tyV_is {T:String}{x:V}{v:o6}(I:Inv X oq σ H s)(r:RelV x v)(ty:tyV X.K T x H):
  s.TypeIs v T/\∀a,v= .ref a->∃ob,s.heap.get? a=u_ ob/\ob.dict=none:=by
 cases x with
 |str z=>
  erw[r,t,rfl];cases(show T="str" from ty)
  exact[vP s z t:λ_ e=>nomatch e]
 |int i=>
  erw[r,t,rfl];cases(show T="int" from ty)
  exact[typeIs_int s i t:λ_ e=>nomatch e]
 |ref p=>
  cases r;rcases ty with⟨rfl,xs,hq⟩|⟨rfl,o,O,hc,hd⟩|⟨rfl,O⟩|⟨rfl,S,n,O⟩
  ·erw[I.list hq,its,_,pl,_];refine[pl.isList.typeIs:λa e=> ?_];cases e;erw[pl,o,n,e,c,hd,_];exact[o:e:hd]
  ·refine[[o:I.kIn p o O:hc]:λa e=> ?_];cases e;exact[o:I.kIn _ o O:hd]
  ·have z:∃o,s.heap.get? p=u_ o/\o.ExactDict:=by
    rcases O with⟨kvs,O⟩|⟨kvs,O⟩
    ·erw[I.hok p _ O,_,_,_,_,o,_,_,e,ex,_];exact[o:e:ex]
    ·erw[I.hok p _ O,_,_,_,_,o,_,_,e,ex,_];exact[o:e:ex]
   erw[z,o,e,ex];refine[[o:e:ex.1]:λa U=> ?_];cases U;exact[o:e:ex.2.1]
  ·erw[I.hok p _ O,o,_,_,_,e,ex,_];refine[[o:e:ex.1]:λa U=> ?_];cases U;exact[o:e:ex.2.1]
 |_=>exact VB ty
noncomputable def tBM0 (K:o0)(T:String)(r:V->oj V->Hp->VK->Prop)(to:TE):TE:=λσ H Q=>to σ H λx H1=>tyV K T x H1/\r x [] H1 Q
noncomputable def tBM (K:o0)(T:String)(r:V->oj V->Hp->VK->Prop)(to:TE)(t:TA):TE:=λσ H Q=>to σ H λx H1=>tyV K T x H1/\t σ H1 λxs H2=>r x xs H2 Q
variable {o e:Expr}{es:oj Expr}{to:TE}{t:TA}{name:Str}{apos cpos:Pos}{T id:String}{r:V->oj V->Hp->VK->Prop}
theorem pe_bm0 (pa:HX T)(slot:Slot T name id)(aa:typeOf (.builtin id)=pure (.type "method_descriptor"))(hm:MtR X id r)(ho:PE X o to)
  (O:Gh o name X.env (eval o X.env)=eval o X.env) (U:(apos.endLine==cpos.line)=v_):PE X (.Call (.Attribute o name apos) [] [] cpos) (tBM0 X.K T r to):=by
 intro oq s σ H Q I h;refine wpAny_Call_method0_late O U (thn (ho oq s σ H _ I h) λv s1 zq=> ?_);erw[zq,x,H1,I1,r1,ty,q1];erw[tyV_is I1 r1 ty,h1,h2];exact⟨T,id,pa,slot,aa,h1,h2,vW rfl (PySem.evalArgs_none (hm oq s1 σ H1 x [] v [] Q I1 r1 .nil q1))⟩
theorem jh (pa:HX T)(slot:Slot T name id)(ad:typeOf (.builtin id)=pure (.type "method_descriptor"))(hm:MtR X id r)(ho:PE X o to)(ha:PA X (e::es) t)
  (U:Gh o name X.env (eval o X.env)=eval o X.env:=by rfl)
  (ac:((Vk cpos (Vd (e::es) X.env)).all (λx=> !x.1)&&(Gj cpos (Gb [] X.env)).all (λx=>x.1.isSome)
   &&decide ((e::es).length+([]:oj gR).length+(if([]:oj gR).isEmpty then 0 else 1)<30))=true:=by rfl)
  (aa:(apos.endLine==cpos.line)=true:=by rfl) (hs:Vd (e::es) X.env=(V7,eval e X.env)::Vd es X.env:=by rfl) (O:(Vk cpos (Vd es X.env)).any (·.1)=false:=by rfl):
  PE X (.Call (.Attribute o name apos) (e::es) [] cpos) (tBM X.K T r to t):=by
 intro oq s σ H Q I h;refine wpAny_Call_method_late U ac aa rfl (thn (ho oq s σ H _ I h) λv s1 zq=> ?_);erw[zq,x,H1,I1,r1,ty,q1];erw[tyV_is I1 r1 ty,h1,h2];exists T,id,pa,slot,ad,h1,h2;have hA:=ha cpos oq s1 σ H1 _ I1 q1;rw [hs] at hA⊢;refine vW (by show(V7||(Vk cpos (Vd es X.env)).any (·.1))=V7;rw [O]<;>rfl) (Ua ?_)
 exact thn hA λus s2 ⟨vs,H2,I2,r2,q2⟩=>hm oq s2 σ H2 x vs v us Q I2 r1 r2 q2
end
noncomputable def MtM (X:Cx)(id:String)(r:V->oj V->Hp->VK->Prop):Prop:=
 ∀(oq:oj (o3×Obj)) (s:o7) (σ:St) (H:Hp) (x:V) (xs:oj V) (v:o6) (us:oj o6) (Q:VK),Inv X oq σ H s->RelV x v->Vals xs us->r x xs H Q->
  V8 #[X,X] X.A (call (.builtin id) (v::us)) (EP X oq σ Q) X.xe s
theorem Vals.one:∀{x:V}{us:oj o6},Vals [x] us->∃u,us= [u]/\RelV x u
 |_,_,.cons r .nil=>[0:r]
theorem Vals.zero:∀{us:oj o6},Vals [] us->us= []
 |_,.nil=>rfl
variable {xs:oj V}{us:oj o6}
theorem Vals.dropLast (h:Vals xs us):Vals xs.dropLast us.dropLast:=by
 induction h with
 |nil=>exact .nil
 |cons r t O=>
  cases t with
  |nil=>exact .nil
  |cons q t'=>exact .cons r O
theorem erase_last {α:Type}(l:oj α):l.eraseIdx (l.length-1)=l.dropLast:=by
 induction l with
 |nil=>rfl
 |cons a r O=>
  cases r with
  |nil=>rfl
  |cons b r=>
   have e:(a::b::r).length-1=((b::r).length-1)+1:=by
    have h1:(a::b::r).length=r.length+2:=rfl;have h2:(b::r).length=r.length+1:=rfl;omega
   rw [e,List.eraseIdx_cons_succ,O]
   all_goals rfl
section
variable {X:Cx}{oq:oj (o3×Obj)}{σ:St}{H:Hp}{s:o7}{l b:o3}{xs ys zs:oj V}
theorem Inv.lset {its its':oj o6}{n:Nat}{f:Array o6->Array o6}{t':Nat}(I:Inv X oq σ H s)(O:H l=u_ (.lst xs))
  (e:s.heap.get? l=u_ {cls:= .type "list",data:= .seq its.toArray n}) (U:f its.toArray=its'.toArray) (hv:Vals ys its') (hz:ys.length<=Vb) (ht:0<t':=by ac_rfl):
  Inv X oq σ (upd H l (.lst ys)) {s with heap:=s.heap.update l (Gi f),toks:=t'}:=by
 have q:=PySem.IsL.update e f;rw [U] at q;refine I.write (x:=l) (e:=l) (by rw [O];exact trivial) (.inl rfl) (λb' u hb hu=>(Uk s.heap (Gi f) (Uv hb)).trans hu) [_:q] ?_
 exact⟨hz,its',_,hv,q⟩
variable {its:oj o6}{t':Nat}
theorem Inv.lnew (I:Inv X oq σ H s)(O:Vals ys its)(U:ys.length<=Vb)(ht:0<t':=by ac_rfl):
  Inv X oq σ (upd H s.heap.objs.size (.lst ys)) {s with heap:=s.heap.push {cls:= .type "list",data:= .seq its.toArray},toks:=t'}:=
 I.laid (λ_ _ q=>ud _ q) (uh _) ⟨U,its,(0),O,uC _ rfl⟩
theorem Inv.fresh (I:Inv X oq σ H s):H s.heap.objs.size=none:=I.hok.fresh (uh _)
theorem Inv.lstM (I:Inv X oq σ H s)(O:H l=u_ (.lst xs)):xs.length<=Vb/\∃(its:oj o6) (n:Nat),Vals xs its/\xs.length=its.length/\s.heap.get? l=u_ {cls:= .type "list",data:= .seq its.toArray n}:=by
 erw[I.hok l _ O,z,its,n,r,e];exact⟨z,its,n,r,r.length,e⟩
theorem notLongL (h:n<=Vb):Tg n=false:=by
 unfold Tg;exact uc ()
end
section
variable {X:Cx}
inductive rAppend (x:V) (vs:List V) (H:Hp) (Q:VK):Prop
 |mk (l:_) (xs:_) (y:_) (_:x= .ref l) (_:vs= [y]) (_:H l=u_ (.lst xs)) (_:xs.length<Vb) (_:Q .non (upd H l (.lst (xs++ [y]))))
theorem Ya:MtM X "list.append" rAppend:=by
 intro oq s σ H x vs v us Q I U rv h;erw[h,l,xs,y,rfl,rfl,O,hz,q];cases U;erw[rv.one,u,rfl,ru];erw[I.lstM O,z,its,n,r,hl,e];refine vQ F.slot_list_append [_:e:1] F.entry_list_append (F.args_list_append_2 _ _) (PySem.list_append l its.toArray n u (by rw [uj];omega)) [e:?_]
 refine⟨.non,_,I.lset (its':=its++ [u]) O e (by simp) (r.append (.cons ru .nil)) ?_,1,q⟩
 rw [uu,vo];omega
inductive rExtend (x:V) (vs:List V) (H:Hp) (Q:VK):Prop
 |mk (l:_) (b:_) (xs:_) (zs:_) (_:x= .ref l) (_:vs= [.ref b]) (_:H l=u_ (.lst xs)) (_:H b=u_ (.lst zs)) (_:xs.length+zs.length<=Vb) (_:Q .non (upd H l (.lst (xs++zs))))
theorem mt_extend:MtM X "list.extend" rExtend:=by
 intro oq s σ H x vs v us Q I rx rv h;erw[h,l,b,xs,zs,rfl,rfl,hH,hB,hz,q];cases rx;erw[rv.one,u,rfl,ru];cases ru;erw[I.lstM hH,z,its,n,r,hl,e];erw[I.lstM hB,z2,O,n2,r2,aa,e2];have hsz:its.toArray.size+O.toArray.size<=sizeLine:=by rw [uj,uj];omega
 have U:¬(!its.toArray.isEmpty&&Tg (its.toArray.size+O.toArray.size))=true:=by
  rw [notLongL hsz,tU];exact u9
 refine vQ F.slot_list_extend [_:e:1] F.entry_list_extend (F.args_list_extend_2 _ _)
  (pH l its.toArray n b O.toArray n2 U (by rw [uj];omega) ()) [e:e2:?_]
 refine⟨.non,_,I.lset (its':=its++O) hH e (by simp) (r.append r2) ?_,1,q⟩
 rw [uu];omega
inductive rPop (x:V) (vs:List V) (H:Hp) (Q:VK):Prop
 |mk (l:_) (xs:_) (y:_) (_:x= .ref l) (_:vs= []) (_:H l=u_ (.lst xs)) (_:xs[xs.length-1]? =u_ y) (_:Q y (upd H l (.lst xs.dropLast)))
theorem mt_pop:MtM X "list.pop" rPop:=by
 intro oq s σ H x vs v us Q I rx rv h;erw[h,l,xs,y,rfl,rfl,hH,hy,q];cases rx;have O:=rv.zero;subst O;erw[I.lstM hH,z,its,n,r,hl,e];erw[r.get hy,u,hu,ru];have U:its.toArray[its.toArray.size-1]? =u_ u:=by
  show its.toArray[its.length-1]? =u_ u;rwa [<-U1,<-hl]
 refine vQ F.slot_list_pop [_:e:1] F.entry_list_pop (F.args_list_pop_1 _) (RW l its.toArray n u U (by rw [uj];omega)) [e:?_]
 refine⟨y,_,I.lset (its':=its.dropLast) hH e ?_ r.dropLast ?_,ru,q⟩
 ·show its.toArray.eraseIdxIfInBounds (its.toArray.size-1)=its.dropLast.toArray;rw [uj,List.eraseIdxIfInBounds_toArray,erase_last]
 ·rw [List.length_dropLast];omega
inductive rCat (x:V) (y:V) (H:Hp) (Q:VK):Prop
 |mk (l:_) (b:_) (xs:_) (zs:_) (_:x= .ref l) (_:y= .ref b) (_:H l=u_ (.lst xs)) (_:H b=u_ (.lst zs)) (_:xs.length+zs.length<=Vb) (_:∀p,H p=U_->Q (.ref p) (upd H p (.lst (xs++zs))))
theorem op_cat:OpR X (VH .Add) rCat:=by
 intro oq s σ H x y v u Q I U ry h;erw[h,l,b,xs,zs,rfl,rfl,hH,hB,hz,q];cases U;cases ry;erw[I.lstM hH,z,its,n,r,hl,e];erw[I.lstM hB,z2,O,n2,r2,aa,e2];refine PySem.P.add_list e e2 ?_ (by rw [uj,uj];omega)
 have ea:its.toArray++O.toArray=(its++O).toArray:=by simp
 rw [ea];exact⟨.ref _,_,I.lnew (t':=s.toks) (r.append r2) (by rw [uu];omega),1,q _ I.fresh⟩
end
section
variable {prog:o9}{w:og}{A:oh}{E:o6->o7->Prop}{s:o7}
set_option maxRecDepth 100000 in
end
section
variable {κ:Type}[DecidableEq κ]
noncomputable def valV (kvs:oj (κ×V))(k:κ):om V:=(kvs.find? λkv=>decide (kv.1=k)).map (·.2)
noncomputable def putK (kvs:oj (κ×V))(k:κ)(v:V):oj (κ×V):=
 if(kvs.any λkv=>decide (kv.1=k))=v_ then kvs.map (λkv=>if kv.1=k then(kv.1,v) else kv) else kvs++ [(k,v)]
noncomputable def Jd (kvs:oj (κ×V))(k:κ):oj (κ×V):=kvs.filter λkv=>decide (kv.1≠k)
theorem kZ {k:κ}:valV ([]:oj (κ×V)) k=none:=rfl
theorem QP {p:κ×V}{r:oj (κ×V)}{k:κ}(e:p.1=k):valV (p::r) k=u_ p.2:=by simp [valV,vb,e]
theorem QE {p:κ×V}{r:oj (κ×V)}{k:κ}(e:¬p.1=k):valV (p::r) k=valV r k:=by simp [valV,vb,e]
theorem J2 (k:κ):∀kvs:oj (κ×V),(kvs.any λkv=>decide (kv.1=k))=(valV kvs k).isSome
 | []=>rfl
 |p::r=>by
  rw [UA];by_cases e:p.1=k
  ·simp only [QP e,ub e,Bool.true_or,Option.isSome_some]
  ·rw [QE e,uc e,FK];exact J2 k r
theorem valV_map (k j:κ)(y:V):∀kvs:oj (κ×V),valV (kvs.map λkv=>if kv.1=k then(kv.1,y) else kv) j=(valV kvs j).map λx=>if j=k then y else x
 | []=>rfl
 |p::r=>by
  have O:=valV_map k j y r;rw [uq];by_cases h:p.1=k
  ·rw [A5 h];by_cases e:p.1=j
   ·rw [QP (p:=(p.1,y)) e,QP e,HD,A5 (e.symm.trans h)]
   ·rw [QE (p:=(p.1,y)) e,QE e,O]
  ·rw [A4 h];by_cases e:p.1=j
   ·rw [QP (p:=p) e,QP e,HD,A4 (λz=>h (e.trans z))]
   ·rw [QE (p:=p) e,QE e,O]
theorem valV_snoc (k j:κ)(y:V):∀kvs:oj (κ×V),valV kvs k=U_->valV (kvs++ [(k,y)]) j=if j=k then u_ y else valV kvs j
 | [],_=>by
  by_cases e:k=j
  ·rw [A5 e.symm];exact QP (p:=(k,y)) e
  ·rw [A4 (λz=>e z.symm)];exact QE (p:=(k,y)) e
 |p::r,hn=>by
  rw [vT];have O:¬p.1=k:=λz=>by rw [QP z] at hn;cases hn
  rw [QE O] at hn;have U:=valV_snoc k j y r hn;by_cases e:p.1=j
  ·rw [QP e,QP e,A4 (λz=>O (e.trans z))]
  ·rw [QE e,QE e,U]
theorem XZ (kvs:oj (κ×V))(k j:κ)(y:V):valV (putK kvs k y) j=if j=k then u_ y else valV kvs j:=by
 unfold putK;by_cases a:(kvs.any λkv=>decide (kv.1=k))=v_
 ·rw [A5 a,valV_map];rw [J2] at a;by_cases e:j=k
  ·erw[Option.isSome_iff_exists.mp a,x,O];rw [A5 e,e,O,HD,A5 rfl]
  ·rw [A4 e];cases valV kvs j with
   |none=>rfl
   |some x=>rw [HD,A4 e]
 ·rw [A4 a];refine valV_snoc k j y kvs ?_;rw [J2] at a;cases q:valV kvs k with
  |none=>rfl
  |some x=>rw [q] at a;exact(a rfl).elim
theorem yS (kvs:oj (κ×V))(k:κ)(v:V):(putK kvs k v).length<=kvs.length+1:=by
 unfold putK;split
 ·rw [ua];omega
 ·rw [uu,ui,Hc];omega
variable {kvs:oj (κ×V)}
theorem Zy {k:κ}(v:V)(h:valV kvs k=U_):putK kvs k v=kvs++ [(k,v)]:=by
 unfold putK;rw [J2,h];exact A4 ()
theorem RelO.isSome_eq {o:om V}{u:om o6}(r:RelO o u):o.isSome=u.isSome:=by
 cases o with
 |none=>cases u with
  |none=>rfl
  |some _=>exact(show False from r).elim
 |some _=>cases u with
  |none=>exact(show False from r).elim
  |some _=>rfl
theorem RelO.getD {o:om V}{u:om o6}{d:V}{d':o6}(r:RelO o u)(rd:RelV d d'):RelV (o.getD d) (u.getD d'):=by
 cases o with
 |none=>cases u with
  |none=>exact rd
  |some _=>exact(show False from r).elim
 |some _=>cases u with
  |none=>exact(show False from r).elim
  |some _=>exact r
variable {vs:oj (κ×o6)}
theorem KV.val (r:KV kvs vs)(k:κ):RelO (valV kvs k) (gZ vs k):=by
 unfold KV at r
 induction r with
 |nil=>exact VG
 | @cons p q ps qs h t ih=>
  erw[h,h1,h2];by_cases e:p.1=k
  ·have O:q.1=k:=h1.symm.trans e;have b:gZ (q::qs) k=u_ q.2:=by simp [gZ,vb,O]
   rwa [QP e,b]
  ·have O:¬q.1=k:=λz=>e (h1.trans z);have b:gZ (q::qs) k=gZ qs k:=by simp [gZ,vb,O]
   rw [QE e,b];exact ih
theorem KV.any (r:KV kvs vs)(k:κ):(kvs.any λkv=>decide (kv.1=k))=vs.any λkv=>decide (kv.1=k):=by
 unfold KV at r
 induction r with
 |nil=>rfl
 |cons h t O=>rw [UA,UA,O,h.1]
variable {y:V}{u:o6}
theorem KV.repl (r:KV kvs vs)(k:κ)(O:RelV y u):
  KV (kvs.map λkv=>if kv.1=k then(kv.1,y) else kv) (vs.map λkv=>if kv.1=k then(kv.1,u) else kv):=by
 unfold KV at r⊢
 induction r with
 |nil=>exact .nil
 | @cons p q ps qs h t ih=>
  rw [uq,uq];refine .cons ?_ ih;erw[h,h1,h2];by_cases e:p.1=k
  ·rw [A5 e,A5 (h1.symm.trans e)];exact[h1:O]
  ·rw [A4 e,A4 (λz=>e (h1.trans z))];exact[h1:h2]
theorem KV.put (r:KV kvs vs)(k:κ)(O:RelV y u):KV (putK kvs k y) (G7 vs k u):=by
 unfold putK G7;rw [r.any k];by_cases e:(vs.any λkv=>decide (kv.1=k))=v_
 ·rw [A5 e,A5 e];exact r.repl k O
 ·rw [A4 e,A4 e];exact Paired.snoc r [1:O]
theorem KV.drop (r:KV kvs vs)(k:κ):KV (Jd kvs k) (without vs k):=by
 unfold KV at r⊢;unfold Jd without
 induction r with
 |nil=>exact .nil
 | @cons p q ps qs h t ih=>
  erw[h,h1,h2];rw [vA,vA];by_cases e:p.1=k
  ·have a:¬decide (p.1≠k)=true:=by simp [e]
   have b:¬decide (q.1≠k)=true:=by simp [h1.symm.trans e]
   rw [A4 a,A4 b];exact ih
  ·have O:¬q.1=k:=λz=>e (h1.trans z);have a:decide (p.1≠k)=true:=by simp [e]
   have b:decide (q.1≠k)=true:=by simp [O]
   rw [A5 a,A5 b];exact .cons [h1:h2] ih
theorem KV.keys (r:KV kvs vs):kvs.map (·.1)=vs.map (·.1):=by
 unfold KV at r
 induction r with
 |nil=>rfl
 |cons h t O=>rw [uq,uq,O,h.1]
theorem KV.length (r:KV kvs vs):kvs.length=vs.length:=Paired.length r
theorem dropK_le (kvs:oj (κ×V))(k:κ):(Jd kvs k).length<=kvs.length:=vq _ _
end
variable {w:og}{u:o6}
theorem kV_is {P:o9}{k:Key}(r:RelV (kV k) u):(Qa P w).is k u=true:=by
 cases k with
 |inl i=>obtain⟨t,e⟩:=(show∃t,u=gU i t from r);subst e;exact mixKind_int P w i t
 |inr x=>obtain⟨t,e⟩:=(show∃t,u=VC x t from r);subst e;exact ZF P w x t
theorem items_are {P:o9}{w:og}:∀{ks:oj Key}{us:oj o6},Vals (ks.map kV) us->ItemsAre (Qa P w) ks us
 | [],_,r=>by rw [U0] at r;cases r;exact .nil
 |k::ks,_,r=>by
  rw [uq] at r;cases r with
  |cons h t=>exact .cons (kV_is h) (items_are t)
noncomputable abbrev KT (H:Hp):oj (oj Key×V)->oj (oj Key×o3×o6)->Prop:=Paired λp q=>p.1=q.1/\H q.2.1=u_ (.tup (p.1.map kV))/\RelV p.2 q.2.2
variable {H:Hp}
theorem KT.val {kvs:oj (oj Key×V)}{xs:oj (oj Key×o3×o6)}(r:KT H kvs xs)(k:oj Key):RelO (valV kvs k) ((gN xs k).map (·.2)):=by
 induction r with
 |nil=>exact VG
 | @cons p q ps qs h t ih=>
  erw[h,h1,_,h2];by_cases e:p.1=k
  ·have O:q.1=k:=h1.symm.trans e;have b:gN (q::qs) k=u_ q.2:=by simp [gN,vb,O]
   rwa [QP e,b]
  ·have O:¬q.1=k:=λz=>e (h1.trans z);have b:gN (q::qs) k=gN qs k:=by simp [gN,vb,O]
   rw [QE e,b];exact ih
variable {y:V}
theorem KT.repl {kvs:oj (oj Key×V)}{xs:oj (oj Key×o3×o6)}(r:KT H kvs xs)(k:oj Key)(O:RelV y u):
  KT H (kvs.map λkv=>if kv.1=k then(kv.1,y) else kv) (xs.map (putAt k u)):=by
 induction r with
 |nil=>exact .nil
 | @cons p q ps qs h t ih=>
  rw [uq,uq];refine .cons ?_ ih;erw[h,h1,h2,h3];unfold putAt;by_cases e:p.1=k
  ·rw [A5 e,A5 (h1.symm.trans e)];exact[h1:h2:O]
  ·rw [A4 e,A4 (λz=>e (h1.trans z))];exact[h1:h2:h3]
variable {b:o3}
theorem KT.put {kvs:oj (oj Key×V)}{xs:oj (oj Key×o3×o6)}(r:KT H kvs xs)(k:oj Key)(U:H b=u_ (.tup (k.map kV)))(O:RelV y u):
  KT H (putK kvs k y) (storedH xs k b u):=by
 have e:(kvs.any λkv=>decide (kv.1=k))=(gN xs k).isSome:=by
  rw [J2,(r.val k).isSome_eq,HY]
 unfold putK storedH;rw [e];by_cases q:(gN xs k).isSome=v_
 ·rw [A5 q,A5 q];exact r.repl k O
 ·rw [A4 q,A4 q];exact Paired.snoc r [1:U:O]
variable {H':Hp}
theorem KT.keeps {kvs:oj (oj Key×V)}{xs:oj (oj Key×o3×o6)}(r:KT H kvs xs)(O:∀b ys,H b=u_ (.tup ys)->H' b=u_ (.tup ys)):KT H' kvs xs:=
 Paired.mapP r λ_ _ z=>[z.1:O _ _ z.2.1:z.2.2]
section
variable {P:o9}{w:og}{H:Hp}{h:o8}{a:o3}
theorem rd_of {u:HO}(ok:HOk P w H h)(e:Rd H a u):yr P w H h a u:=e.ok ok
theorem wf {kvs:oj (Key×V)}(ok:HOk P w H h)(e:Rd H a (.dK kvs)):kvs.length<=Vb/\(a==Vu)=V7/\∃vs,KV kvs vs/\h.DictOf (Qa P w) a vs:=
 show yr P w H h a (.dK kvs) from rd_of ok e
theorem dk_of {kvs:oj (Key×V)}(ok:HOk P w H h)(e:H a=u_ (.dK kvs)):kvs.length<=Vb/\(a==Vu)=V7/\∃vs,KV kvs vs/\h.DictOf (Qa P w) a vs:=wf ok (.inl e)
theorem Z8 {ks:oj Key}(ok:HOk P w H h)(e:H a=u_ (.tup (ks.map kV))):(Gm (Qa P w)).is h ks a:=by
 obtain⟨_,its,r,o,h1,h2,n,h3⟩:=(show yr P w H h a (.tup (ks.map kV)) from ok a _ e)
 exact⟨o,its.toArray,n,h1,h2,h3,by simpa using items_are r⟩
theorem dt_rd {kvs:oj (oj Key×V)}(ok:HOk P w H h)(e:Rd H a (.dT kvs)):kvs.length<=Vb/\(a==Vu)=V7/\
  ∃xs,KT H kvs xs/\h.DictOfH (Gm (Qa P w)) a xs:=by
 obtain⟨z,y,xs,r,o,es,ep,h1,h2,h3,h4,h5⟩:=(show yr P w H h a (.dT kvs) from rd_of ok e)
 refine⟨z,y,xs,r,o,es,ep,h1,h2,h3,h4,λx O=> ?_,h5⟩;have all:∀{l:oj (oj Key×V)}{m:oj (oj Key×o3×o6)},KT H l m->∀x∈m,(Gm (Qa P w)).is h x.1 x.2.1:=by
  intro l m q
  induction q with
  |nil=>intro x O;exact nomatch O
  | @cons p q ps qs hq t ih=>
   intro x O;rcases A8.mp O with e|O
   ·subst e;exact Z8 ok (by rw [<-hq.1];exact hq.2.1)
   ·exact ih x O
 exact all r x O
theorem dt_of {kvs:oj (oj Key×V)}(ok:HOk P w H h)(e:H a=u_ (.dT kvs)):kvs.length<=Vb/\(a==Vu)=V7/\
  ∃xs,KT H kvs xs/\h.DictOfH (Gm (Qa P w)) a xs:=dt_rd ok (.inl e)
end
noncomputable def DGet (H:Hp)(a:o3)(y:V)(r:om V):Prop:=
 (∃kvs k,Rd H a (.dK kvs)/\y=kV k/\r=valV kvs k)∨∃kvs k b,Rd H a (.dT kvs)/\y= .ref b/\H b=u_ (.tup (k.map kV))/\r=valV kvs k
noncomputable def DPut (H:Hp)(a:o3)(y v:V)(H':Hp):Prop:=
 (∃kvs k,H a=u_ (.dK kvs)/\y=kV k/\kvs.length<Vb/\H'=upd H a (.dK (putK kvs k v)))∨
 ∃kvs k b,H a=u_ (.dT kvs)/\y= .ref b/\H b=u_ (.tup (k.map kV))/\kvs.length<Vb/\H'=upd H a (.dT (putK kvs k v))
theorem DGet.k {H:Hp}{a:o3}{kvs:oj (Key×V)}{k:Key}(e:H a=u_ (.dK kvs)):DGet H a (kV k) (valV kvs k):= .inl ⟨kvs,k,.inl e,1,1⟩
theorem DPut.k {H:Hp}{a:o3}{kvs:oj (Key×V)}{k:Key}{v:V}(e:H a=u_ (.dK kvs))(O:kvs.length<Vb):DPut H a (kV k) v (upd H a (.dK (putK kvs k v))):= .inl ⟨kvs,k,e,1,O,1⟩
section
variable {X:Cx}{oq:oj (o3×Obj)}{σ:St}{H:Hp}{s:o7}{a:o3}{y v:V}{u r:o6}{o:om V}{A:oh}{E:o6->o7->Prop}
theorem Inv.big (I:Inv X oq σ H s):Vu<s.heap.objs.size:=by
 have h:Vv<s.heap.objs.size:=(I.mod.glob.keeps I.bk).lt;exact Hb () h
theorem d_getItem {Q:o6->o7->Prop}(hu:A.units+1<Vj)(I:Inv X oq σ H s)(g:DGet H a y (u_ v))(ry:RelV y u)(h:∀U s',Inv X oq σ H s'->RelV v U->Q U s'):
  V8 #[X,X] A (VI (.ref a) u) Q E s:=by
 rcases g with⟨kvs,k,e,ey,l⟩|⟨kvs,k,b,e,ey,eb,l⟩
 ·subst ey;erw[wf I.hok e,z,hd,vs,rel,dd];obtain⟨U,hw,O⟩:=RelO.some_of (v:=v) (o:=gZ vs k) (by rw [l];exact rel.val k)
  exact RF (kV_is ry) dd.mapOf hw (h U _ (I.tok _) O)
 ·subst ey;cases(show u=Ve b from ry)
  erw[dt_rd I.hok e,z,hd,xs,rel,dd];obtain⟨U,hw,O⟩:=RelO.some_of (v:=v) (o:=(gN xs k).map (·.2)) (by rw [l];exact rel.val k)
  erw[Option.map_eq_some_iff.mp hw,p,hp,aa];refine wpAny_getItem_heap (U2 hu) (Z8 I.hok eb) dd hp ?_;rw [aa];exact h U _ (I.tok _) O
theorem d_in {Q:o6->o7->Prop}(hu:A.units+1<Vj)(I:Inv X oq σ H s)(g:DGet H a y o)(U:RelV y u)(h:∀s',Inv X oq σ H s'->Q (.bool o.isSome) s'):
  V8 #[X,X] A (Vl .In u (.ref a)) Q E s:=by
 rcases g with⟨kvs,k,e,O,l⟩|⟨kvs,k,b,e,O,eb,l⟩
 ·subst O;erw[wf I.hok e,z,hd,vs,rel,dd];refine r6 (kV_is U) hd dd.mapOf ?_;rw [<-(rel.val k).isSome_eq,<-l];exact h _ (I.tok _)
 ·subst O;cases(show u=Ve b from U)
  erw[dt_rd I.hok e,z,hd,xs,rel,dd];refine wpAny_in_heap (U2 hu) (Z8 I.hok eb) hd dd ?_;have q:=(rel.val k).isSome_eq;rw [HY] at q;rw [<-q,<-l];exact h _ (I.tok _)
theorem d_notIn {Q:o6->o7->Prop}(hu:A.units+1<Vj)(I:Inv X oq σ H s)(g:DGet H a y o)(U:RelV y u)(h:∀s',Inv X oq σ H s'->Q (.bool (!o.isSome)) s'):
  V8 #[X,X] A (Vl .NotIn u (.ref a)) Q E s:=by
 rcases g with⟨kvs,k,e,O,l⟩|⟨kvs,k,b,e,O,eb,l⟩
 ·subst O;erw[wf I.hok e,z,hd,vs,rel,dd];refine Rg (kV_is U) hd dd.mapOf ?_;rw [<-(rel.val k).isSome_eq,<-l];exact h _ (I.tok _)
 ·subst O;cases(show u=Ve b from U)
  erw[dt_rd I.hok e,z,hd,xs,rel,dd];refine wpAny_notIn_heap (U2 hu) (Z8 I.hok eb) hd dd ?_;have q:=(rel.val k).isSome_eq;rw [HY] at q;rw [<-q,<-l];exact h _ (I.tok _)
variable {h':o8}{t':Nat}
theorem d_write {ob:HO}(I:Inv X oq σ H s)(mu:Mut (H a))(O:GN a s.heap h')(U:∃q,h'.get? a=u_ q)(new:yr X.prog X.w (upd H a ob) h' a ob)(ht:0<t':=by ac_rfl):
  Inv X oq σ (upd H a ob) {s with heap:=h',toks:=t'}:=
 I.write (x:=a) (e:=a) mu (.inl rfl) (λb q hb z=>(O.2 b hb).trans z) U new
theorem dk_new {P:o9}{kvs:oj (Key×V)}{vs:oj (Key×o6)}(z:kvs.length<=Vb)(hd:(a==Vu)=V7)(rel:KV kvs vs)(dd:h'.DictOf (Qa P w) a vs):
  yr P w H' h' a (.dK kvs):=⟨z,hd,vs,rel,dd⟩
theorem d_setItem {Q:Unit->o7->Prop}(hu:A.units+1<Vj)(I:Inv X oq σ H s)(g:DPut H a y v H')(ry:RelV y u)(rv:RelV v r)(h:∀s',Inv X oq σ H' s'->Q GH s'):
  V8 #[X,X] A (tG (.ref a) u r) Q E s:=by
 rcases g with⟨kvs,k,e,ey,l,eH⟩|⟨kvs,k,b,e,ey,eb,l,eH⟩
 ·subst ey eH;erw[dk_of I.hok e,z,hd,vs,rel,dd];have hz:vs.length<=sizeLine:=by rwa [<-rel.length]
  have hl:(putK kvs k v).length<=sizeLine:=by have:=yS kvs k v;omega
  refine wpAny_setItem_pairs (hsz:=hz) (kV_is ry) dd λh' O hs=>h _ ?_;have he:∃q,h'.get? a=u_ q:=let⟨q,_,_,U,_⟩:=O;[q:U];exact d_write I (by rw [e];exact VG) hs he (dk_new hl hd (rel.put k rv) O)
 ·subst ey eH;cases(show u=Ve b from ry)
  erw[dt_of I.hok e,z,hd,xs,rel,dd];have hz:xs.length<=sizeLine:=by rwa [<-Paired.length rel]
  have hl:(putK kvs k v).length<=sizeLine:=by have:=yS kvs k v;omega
  refine wpAny_setItem_heap (hsz:=hz) (U2 hu) (Z8 I.hok eb) dd λh' O hs=>h _ ?_;erw[O,q,es,ep,U,h2,h3,h4,_,h5];refine d_write I (by rw [e];exact VG) hs [q:U] ⟨hl,hd,_,(rel.put k eb rv).keeps λc ys ec=> ?_,q,es,ep,U,h2,h3,h4,h5⟩
  rw [qi (ne_of ec e (λz=>nomatch z))];exact ec
end
section
variable {X:Cx}{oq:oj (o3×Obj)}{σ:St}{H:Hp}{s:o7}{a:o3}{kvs:oj (Key×V)}{k:Key}{u:o6}{A:oh}{E:o6->o7->Prop}
theorem d_pop {v:V}{more:oj o6}{Q:o6->o7->Prop}(I:Inv X oq σ H s)(e:H a=u_ (.dK kvs))(ry:RelV (kV k) u)(l:valV kvs k=u_ v)(hm:more= []∨∃x,more= [x])
  (h:∀O s',Inv X oq σ (upd H a (.dK (Jd kvs k))) s'->RelV v O->Q O s'):V8 #[X,X] A (call (.builtin "dict.pop") (.ref a::u::more)) Q E s:=by
 erw[dk_of I.hok e,z,hd,vs,rel,dd];obtain⟨O,hw,aa⟩:=RelO.some_of (v:=v) (o:=gZ vs k) (by rw [<-l];exact rel.val k)
 have hp:(keyPart u).isSome=true:=by
  cases k with
  |inl i=>obtain⟨t,q⟩:=(show∃t,u=gU i t from ry);subst q;rfl
  |inr x=>obtain⟨t,q⟩:=(show∃t,u=VC x t from ry);subst q;rfl
 have ha:argsOk "dict.pop" ⟨.ref a::u::more,[]⟩:=by
  rcases hm with q|⟨x,q⟩
  ·subst q;exact PySem.F.args_dict_pop_2 _ _
  ·subst q;exact PySem.F.args_dict_pop_3 _ _ _
 refine GP PySem.F.slot_dict_pop dd.typeIs PySem.F.entry_dict_pop ha (meets_dict_pop_there (Qa X.prog X.w) a (kV_is ry) more hm hp)
  ⟨vs,O,dd,by rwa [<-rel.length],hw,λh' U hs=>h O _ ?_ aa⟩
 have he:∃q,h'.get? a=u_ q:=let⟨q,_,_,hq,_⟩:=U;[q:hq];exact d_write I (by rw [e];exact VG) hs he (dk_new (uI (dropK_le kvs k) z) hd (rel.drop k) U)
theorem d_len {Q:o6->o7->Prop}(I:Inv X oq σ H s)(e:Rd H a (.dK kvs))(h:∀t s',Inv X oq σ H s'->Q (.int kvs.length t) s'):V8 #[X,X] A (call (.builtin "len") [.ref a]) Q E s:=by
 erw[wf I.hok e,z,hd,vs,rel,dd];refine call_len_dict hd dd (by rw [<-rel.length];rw [uB] at z;omega) ?_
 rw [<-rel.length];exact h _ _ (I.tok _)
end
noncomputable def NoSl (i:Expr):Prop:=∀ov iv,GJ i V7 ov iv=HJ [ov,iv] (VI ov iv)
theorem subD_of {prog:o9}{w:og}{A:oh}{E:o6->o7->Prop}{s:o7}{env:Env}{value slice:Expr}{pos:Pos}{T id:String}{Q:o6->o7->Prop}
  (hl:GE (.type T) "__getitem__"=pure (u_ (.builtin id))) (hs:NoSl slice)
  (h:V8 #[w,w] A (eval value env) (λo s₁=>V8 #[w,w] A (eval slice env) (λi O=>O.TypeIs o T/\V8 #[w,w] A (VI o i) Q E O) E s₁) E s):
  V8 #[w,w] A (eval (.Subscript value slice pos) env) Q E s:=by
 refine Ha (vN h (λo s₁ h₁=>vN h₁ (λi O U=> ?_) λ_ _ x=>x) λ_ _ x=>x);erw[U,hT,U];unfold HH;refine A6 ?_;rw [getitemInPython_of_ne hT.not_modules];refine A6 (tM hT hl ?_);have fin:V8 #[w,w] A (GJ slice V7 o i) (λr s₃=>V8 #[w,w] A (letTemporaryGo value o r>>=λ_=>pure r) Q E s₃) E O:=by
  rw [hs o i];exact wpAny_operating (vN U (λr s₃ h₃=>A6 (wpAny_letTemporaryGo (uw h₃))) λ_ _ x=>x)
 first
  |exact uw (A6 fin)
  |exact A6 (uw (A6 fin))
  |exact A6 fin
variable {X:Cx}{oq:oj (o3×Obj)}{σ:St}{s:o7}{a:o3}
theorem dict_typeIs {o:om V}(I:Inv X oq σ H s)(g:DGet H a y o):s.TypeIs (.ref a) "dict":=by
 rcases g with⟨kvs,k,e,_,_⟩|⟨kvs,k,b,e,_,_,_⟩
 ·erw[wf I.hok e,_,_,vs,_,dd];exact dd.typeIs
 ·erw[dt_rd I.hok e,_,_,xs,_,dd];exact dd.typeIs
inductive ItDGet (Q:VK) (x:V) (y:V) (H2:Hp):Prop
 |mk (a:_) (v:_) (_:x= .ref a) (_:DGet H2 a y (u_ v)) (_:Q v H2)
noncomputable def tDGet (td ty:TE):TE:=λσ H Q=>td σ H λx H1=>ty σ H1 λy H2=>ItDGet Q x y H2
inductive ItDIn (Q:VK) (y:V) (x:V) (H2:Hp):Prop
 |mk (a:_) (o:_) (_:x= .ref a) (_:DGet H2 a y o) (_:Q (.bl o.isSome) H2)
noncomputable def tDIn (ty td:TE):TE:=λσ H Q=>ty σ H λy H1=>td σ H1 λx H2=>ItDIn Q y x H2
inductive ItDNotIn (Q:VK) (y:V) (x:V) (H2:Hp):Prop
 |mk (a:_) (o:_) (_:x= .ref a) (_:DGet H2 a y o) (_:Q (.bl (!o.isSome)) H2)
noncomputable def tDNotIn (ty td:TE):TE:=λσ H Q=>ty σ H λy H1=>td σ H1 λx H2=>ItDNotIn Q y x H2
inductive IsDPut (D:Ends) (σ:St) (v:V) (x:V) (y:V) (H3:Hp):Prop
 |mk (a:_) (H4:_) (_:x= .ref a) (_:DPut H3 a y v H4) (_:D.nx σ H4)
noncomputable def sDPut (td ty tv:TE):TS:=λD σ H=>tv σ H λv H1=>td σ H1 λx H2=>ty σ H2 λy H3=>IsDPut D σ v x y H3
section
variable {X:Cx}{o i e value:Expr}{pos pos' tpos:Pos}{td ty tv:TE}
theorem Qr (hu:X.A.units+1<Vj)(ho:PE X o td)(hi:PE X i ty)(hs:NoSl i):PE X (.Subscript o i pos) (tDGet td ty):=by
 intro oq s σ H Q I h;refine subD_of PySem.F.slot_dict_getitem.lookup hs (thn (ho oq s σ H _ I h) λu s1 ⟨x,H1,I1,rx,q1⟩=>thn (hi oq s1 σ H1 _ I1 q1) λiv s2 zq=> ?_);erw[zq,y,H2,U,ry,a,v,ex,g,q2];subst ex;obtain rfl:u=Ve a:=rx;exact[dict_typeIs U g:d_getItem hu U g ry λw' s3 I3 O=>⟨v,H2,I3,O,q2⟩]
theorem w8 (O:X.A.units+1<Vj)(hi:PE X i ty)(U:PE X o td):PC X .In i o (tDIn ty td):=by
 intro oq s σ H Q I h;refine thn (hi oq s σ H _ I h) λiv s1 ⟨y,H1,I1,ry,q1⟩=>thn (U oq s1 σ H1 _ I1 q1) λu s2 zq=> ?_;erw[zq,x,H2,I2,rx,a,ov,ex,g,q2];subst ex;obtain rfl:u=Ve a:=rx;exact d_in O I2 g ry λs3 I3=>⟨.bl ov.isSome,H2,I3,1,q2⟩
theorem Jn (O:X.A.units+1<Vj)(hi:PE X i ty)(U:PE X o td):PC X .NotIn i o (tDNotIn ty td):=by
 intro oq s σ H Q I h;refine thn (hi oq s σ H _ I h) λiv s1 ⟨y,H1,I1,ry,q1⟩=>thn (U oq s1 σ H1 _ I1 q1) λu s2 zq=> ?_;erw[zq,x,H2,I2,rx,a,ov,ex,g,q2];subst ex;obtain rfl:u=Ve a:=rx;exact d_notIn O I2 g ry λs3 I3=>⟨.bl (!ov.isSome),H2,I3,1,q2⟩
theorem YH (O:X.A.units+1<Vj)(U:PE X o td)(hi:PE X i ty)(hv:PE X value tv)(hs:GU value (u_ (.Subscript o i pos')) pos.line X.env=pure V7):
  PS X (.Assign [.Subscript o i pos'] value pos) (sDPut td ty tv):=by
 intro oq s σ H D I h;refine wpAny_Assign_Subscript (thn (hv oq s σ H _ I h) λr s1 ⟨v,H1,I1,rv,q1⟩=>thn (U oq s1 σ H1 _ I1 q1) λu s2 ⟨x,H2,I2,rx,q2⟩=>thn (hi oq s2 σ H2 _ I2 q2) λiv s3 zq=> ?_) hs;erw[zq,y,H3,I3,ry,a,H4,ex,g,q3];subst ex;obtain rfl:u=Ve a:=rx;exact d_setItem O I3 g ry rv λs4 I4=>⟨σ,H4,I4,q3⟩
end
theorem dk_empty {P:o9}(h:o8)(O:Vu<h.objs.size):yr P w H (h.push {cls:= .type "dict",data:= .dict #[]}) h.objs.size (.dK []):=
 ⟨uN _,beq_eq_false_iff_ne.mpr (Uv (uL O)),[],.nil,Fc h⟩
noncomputable def tDNewK:TE:=λ_ H Q=>∀p,H p=U_->Q (.ref p) (upd H p (.dK []))
section
variable {X:Cx}{pos:Pos}
theorem jL:PE X (.Dict [] [] pos) tDNewK:=λoq s σ H Q I h=>
 wpAny_Dict_empty ⟨.ref s.heap.objs.size,_,I.laid (a:=s.heap.objs.size) (o:= .dK []) (t':=s.toks) (λ_ _ q=>ud _ q) (uh _) (dk_empty s.heap I.big),1,h _ (I.hok.fresh (uh _))⟩
end
structure M1 (X:Cx)(o:Expr)(m:Str)(apos:Pos)(e:Expr)(cpos:Pos):Prop where
 base:Gh o m X.env (eval o X.env)=eval o X.env
 few:((Vk cpos (Vd [e] X.env)).all (λx=> !x.1)&&(Gj cpos (Gb [] X.env)).all (λx=>x.1.isSome)
  &&decide (([e]:oj Expr).length+([]:oj gR).length+(if([]:oj gR).isEmpty then 0 else 1)<30))=v_
 line:(apos.endLine==cpos.line)=v_
 trees:Vk cpos (Vd [e] X.env)= [(V7,eval e X.env)]
structure M2 (X:Cx)(o:Expr)(m:Str)(apos:Pos)(e f:Expr)(cpos:Pos):Prop where
 base:Gh o m X.env (eval o X.env)=eval o X.env
 few:((Vk cpos (Vd [e,f] X.env)).all (λx=> !x.1)&&(Gj cpos (Gb [] X.env)).all (λx=>x.1.isSome)
  &&decide (([e,f]:oj Expr).length+([]:oj gR).length+(if([]:oj gR).isEmpty then 0 else 1)<30))=v_
 line:(apos.endLine==cpos.line)=v_
 trees:Vk cpos (Vd [e,f] X.env)= [(V7,eval e X.env),(V7,eval f X.env)]
noncomputable def IsD (H:Hp)(a:o3):Prop:=(∃kvs,Rd H a (.dK kvs))∨∃kvs,Rd H a (.dT kvs)
theorem isD_at (I:Inv X oq σ H s)(d:IsD H a):
  s.TypeIs (.ref a) "dict"/\(∀b,Ve a= .ref b->∃ob,s.heap.get? b=u_ ob/\ob.dict=U_)/\(a==Vu)=false:=by
 rcases d with⟨kvs,e⟩|⟨kvs,e⟩
 ·erw[wf I.hok e,_,hd,vs,_,dd];refine[dd.typeIs:λb q=> ?_:hd];cases q;erw[dd,ob,_,_,h1,h2,_];exact[ob:h1:h2.2.1]
 ·erw[dt_rd I.hok e,_,hd,xs,_,dd];refine[dd.typeIs:λb q=> ?_:hd];cases q;erw[dd,ob,_,_,h1,h2,_];exact[ob:h1:h2.2.1]
section
variable {X:Cx}{oq:oj (o3×Obj)}{σ:St}{H:Hp}{s:o7}{a:o3}{y d:V}{u r:o6}{o:om V}{A:oh}{E:o6->o7->Prop}
theorem d_get1 {Q:o6->o7->Prop}(hu:A.units+1<Vj)(I:Inv X oq σ H s)(g:DGet H a y o)(U:RelV y u)(h:∀w' s',Inv X oq σ H s'->RelV (o.getD .non) w'->Q w' s'):
  V8 #[X,X] A (call (.builtin "dict.get") [.ref a,u]) Q E s:=by
 rcases g with⟨kvs,k,e,O,l⟩|⟨kvs,k,b,e,O,eb,l⟩
 ·subst O;erw[wf I.hok e,z,hd,vs,rel,dd];refine GP vL dd.typeIs Ul (PySem.F.args_dict_get_2 _ _) (meets_dict_get (Qa X.prog X.w) a (kV_is U) hd) [_:dd.mapOf:h _ _ (I.tok _) ?_];rw [l];exact(rel.val k).getD rfl
 ·subst O;cases(show u=Ve b from U)
  erw[dt_rd I.hok e,z,hd,xs,rel,dd];refine GP vL dd.typeIs Ul (PySem.F.args_dict_get_2 _ _) (meetsH_dict_get (Gm (Qa X.prog X.w)) a b hd) ⟨U2 hu,k,xs,Z8 I.hok eb,dd,h _ _ (I.tok _) ?_⟩;rw [l];exact(rel.val k).getD rfl
theorem d_get2 {Q:o6->o7->Prop}(hu:A.units+1<Vj)(I:Inv X oq σ H s)(g:DGet H a y o)(U:RelV y u)(rd:RelV d r)(h:∀w' s',Inv X oq σ H s'->RelV (o.getD d) w'->Q w' s'):
  V8 #[X,X] A (call (.builtin "dict.get") [.ref a,u,r]) Q E s:=by
 rcases g with⟨kvs,k,e,O,l⟩|⟨kvs,k,b,e,O,eb,l⟩
 ·subst O;erw[wf I.hok e,z,hd,vs,rel,dd];refine GP vL dd.typeIs Ul (PySem.F.args_dict_get_3 _ _ _) (meets_dict_get_default (Qa X.prog X.w) a (kV_is U) hd r) [_:dd.mapOf:h _ _ (I.tok _) ?_];rw [l];exact(rel.val k).getD rd
 ·subst O;cases(show u=Ve b from U)
  erw[dt_rd I.hok e,z,hd,xs,rel,dd];refine GP vL dd.typeIs Ul (PySem.F.args_dict_get_3 _ _ _) (meetsH_dict_get_default (Gm (Qa X.prog X.w)) a b hd r) ⟨U2 hu,k,xs,Z8 I.hok eb,dd,h _ _ (I.tok _) ?_⟩;rw [l];exact(rel.val k).getD rd
end
inductive ItDGet1 (ty:TE) (σ:St) (Q:VK) (x:V) (H1:Hp):Prop
 |mk (a:_) (_:x= .ref a) (_:IsD H1 a) (_:ty σ H1 λy H2=>∃o,DGet H2 a y o/\Q (o.getD .non) H2)
noncomputable def tDGet1 (td ty:TE):TE:=λσ H Q=>td σ H λx H1=>ItDGet1 ty σ Q x H1
inductive ItDGet2 (ty tx:TE) (σ:St) (Q:VK) (x:V) (H1:Hp):Prop
 |mk (a:_) (_:x= .ref a) (_:IsD H1 a) (_:ty σ H1 λy H2=>tx σ H2 λz H3=>∃o,DGet H3 a y o/\Q (o.getD z) H3)
noncomputable def tDGet2 (td ty tx:TE):TE:=λσ H Q=>td σ H λx H1=>ItDGet2 ty tx σ Q x H1
inductive ItDPop1 (ty:TE) (σ:St) (Q:VK) (x:V) (H1:Hp):Prop
 |mk (a:_) (_:x= .ref a) (_:IsD H1 a) (_:ty σ H1 λy H2=>∃kvs k v,H2 a=u_ (.dK kvs)/\y=kV k/\valV kvs k=u_ v/\Q v (upd H2 a (.dK (Jd kvs k))))
noncomputable def tDPop1 (td ty:TE):TE:=λσ H Q=>td σ H λx H1=>ItDPop1 ty σ Q x H1
section
variable {X:Cx}{o e f:Expr}{apos cpos:Pos}{td ty tx:TE}
theorem pe_dget1 (hu:X.A.units+1<Vj)(ho:PE X o td)(he:PE X e ty)(m:M1 X o "get" apos e cpos):PE X (.Call (.Attribute o "get" apos) [e] [] cpos) (tDGet1 td ty):=by
 intro oq s σ H Q I h;refine Tc m.base m.few m.line UQ vL PySem.F.type_dict_get (thn (ho oq s σ H _ I h) λu s1 zq=> ?_);erw[zq,x,H1,U,rx,a,ex,d,q1];subst ex;obtain rfl:u=Ve a:=rx;erw[isD_at U d,t1,t2,_];exists t1,t2;rw [m.trees];refine vW rfl (Ua (vO (thn (he oq s1 σ H1 _ U q1) λiv s2 ⟨y,H2,I2,ry,ov,g,q2⟩=>Uc ?_)));exact d_get1 hu I2 g ry λw' s3 I3 O=>⟨_,H2,I3,O,q2⟩
theorem pe_dget2 (hu:X.A.units+1<Vj)(ho:PE X o td)(he:PE X e ty)(hf:PE X f tx)(m:M2 X o "get" apos e f cpos):PE X (.Call (.Attribute o "get" apos) [e,f] [] cpos) (tDGet2 td ty tx):=by
 intro oq s σ H Q I h;refine Tc m.base m.few m.line UQ vL PySem.F.type_dict_get (thn (ho oq s σ H _ I h) λu s1 zq=> ?_);erw[zq,x,H1,U,rx,a,ex,d,q1];subst ex;obtain rfl:u=Ve a:=rx;erw[isD_at U d,t1,t2,_];exists t1,t2;rw [m.trees];refine vW rfl (Ua (vO (thn (he oq s1 σ H1 _ U q1) λiv s2 ⟨y,H2,I2,ry,q2⟩=>
  vO (thn (hf oq s2 σ H2 _ I2 q2) λfv s3 ⟨z,H3,I3,rz,ov,g,q3⟩=>Uc ?_))))
 exact d_get2 hu I3 g ry rz λw' s4 I4 O=>⟨_,H3,I4,O,q3⟩
theorem pe_dpop1 (ho:PE X o td)(he:PE X e ty)(m:M1 X o "pop" apos e cpos):PE X (.Call (.Attribute o "pop" apos) [e] [] cpos) (tDPop1 td ty):=by
 intro oq s σ H Q I h;refine Tc m.base m.few m.line UQ PySem.F.slot_dict_pop PySem.F.type_dict_pop (thn (ho oq s σ H _ I h) λu s1 zq=> ?_);erw[zq,x,H1,U,rx,a,ex,d,q1];subst ex;obtain rfl:u=Ve a:=rx;erw[isD_at U d,t1,t2,_];exists t1,t2;rw [m.trees];refine vW rfl (Ua (vO (thn (he oq s1 σ H1 _ U q1) λiv s2 ⟨y,H2,I2,ry,kvs,k,v,ea,ey,l,q2⟩=>Uc ?_)));subst ey;exact d_pop I2 ea ry l (.inl rfl) λw' s3 I3 O=>⟨v,_,I3,O,q2⟩
end
end L2
namespace Att
open PySem PySem.W PySem.Calls PyProof.Rows
variable {h:o8}
theorem wT {P:Hw}:∀(ns:oj Int) (vs:oj o6),WellAll P h vs (ns.map WData.int)->Gf vs ns:=by
 intro ns
 induction ns with
 |nil=>
  intro vs w;rw [U0] at w;cases w;exact .nil
 |cons n ns O=>
  intro vs w;rw [uq] at w;cases w with
  |cons a b=>
   cases a;exact .cons _ _ (O _ b)
theorem script_of {l:OpenLaw}{n:Nat}(hn:l.most=u_ n){P:Hw}{h:o8}{args:oj WData}{O:oj o6}
  (U:l.row.toRowW.claim.pre args=v_) (ad:WellAll P h O args):
  ∃a vs ns,O= [Ve a]/\args= [WData.list (ns.map WData.int)]/\h.get? a=u_ {cls:= .type "list",data:= .seq vs.toArray}/\Gf vs ns/\ns.length<=n:=by
 have ae:WShape.hasAll [] args [.list .int]=true:=(pre_splitW U).1;have hc:l.pre.holds [] {args:=args}=true:=(pre_splitW U).2;erw[hasAllW_cons ae,d,r,rfl,h1,h2];obtain rfl:=hasAllW_nil h2;erw[hasW_list h1,xs,rfl,h3];erw[items_int h3,ns,rfl];have aa:ns.length<=n:=by
  unfold OpenLaw.pre at hc;have h4:(WTm.not (.lt (.lit (.int (n:Int))) (.len (.arg 0)))).holds [] {args:= [.list (ns.map .int)]}=true:=by
   have h4:=(holds_andW hc).1;rwa [hn] at h4
  have h5:=condW_of h4 (w_not (w_lt w_lit (w_len_list (w_arg rfl))));rw [ua] at h5;refine Nat.le_of_not_lt λq=> ?_;have q':(n:Int)<((ns.length:Nat):Int):=by omega
  first
   |(rw [ub q'] at h5;exact absurd h5 ())
   |(simp at h5;omega)
 cases ad with
 |cons w1 w2=>
  cases w2;cases w1 with
  |list ho ac=>exact⟨_,_,ns,1,1,ho,wT ns _ ac,aa⟩
theorem post_true (l:OpenLaw)(args:oj WData):l.row.toRowW.claim.post args (.bool v_) args=true:=
 postW_of (r:=l.row.toRowW) (X:=(v_==v_))
  (show WShape.has [] (.bool v_) .bool=v_ by first|rfl|decide|simp [WShape.has,WShape.arms,WShape.armsAll])
  (show(WTm.eq .res (.lit (.bool v_))).value [] {args:=args,res:=u_ (.bool v_),after:=args}=u_ (.bool (v_==v_)) from w_eq_bool (w_res rfl) w_lit) rfl
theorem attach_call {l:OpenLaw}{n:Nat}{q:o9}{O:oj Str}{XP:(Str->om o6)->o8->Prop}{YP:og->o8->Prop}{d:DefRec}
  (hn:l.most=u_ n) (ae:d.params.defaults= [])
  (call:∀(w:og) (s₀ U:o7) (mg mb:Str->om o6) (fa:o3) (o:Obj) (pm cd doc:o6) (a:o3) (vs:oj o6) (ns:oj Int),
   Ground q O [] XP w s₀ mg mb U.heap->YP w U.heap->
   U.heap.get? fa=u_ o->o.data= .func (docDef d.name d.params d.body d.scope pm cd doc)->U.heap.CodeRec cd d.name->mg d.name=u_ (.ref fa)->
   U.heap.get? a=u_ {cls:= .type "list",data:= .seq vs.toArray}->Gf vs ns->ns.length<=n->U.gens= #[]->
   VD (Vq l.prog w) gS (.call (.ref fa) [[.ref a]:[]]) (λr s'=>r= .ok (.ret (.bool v_))/\OldK U.heap s'.heap/\s'.os=U.os/\VS s'.gens) U):
  WalkO q O XP YP l.row.toRowW d [] (λf vs=>PySem.call f vs):=by
 intro w s₀ U mg mb G Y fa o pm cd doc dV kV ho hd af hD ag hg args ah as hpre hlay hrd hwl hlo;obtain rfl:dV= .none:=Dflts.none hD ae;obtain rfl:kV= .none:=Dflts.noKw hD;erw[script_of hn hpre hwl,a,vs,ns,rfl,rfl,ac,aa,ad];refine enter_call (Hm (call w s₀ U mg mb fa o pm cd doc a vs ns G Y ho (fd_plain hd) af ag ac aa ad hg) λr s' hq=> ?_);erw[hq,rfl,h2,h3,h4];exact⟨.inl ⟨.bool v_,.bool v_,[],1,λ_=>rfl,.bool v_,post_true l _,λ_=>[t_:λ_ hm=>(nomatch hm)]⟩,h2,h3,h4⟩
end Att
namespace L2
open PySem PySem.Spec PyProof.Rows
theorem vals_ints:∀{vs:oj o6}{ns:oj Int},Gf vs ns->Vals (ns.map V.int) vs
 |_,_,.nil=> .nil
 |_,_,.cons n t h=> .cons [t:1] (vals_ints h)
noncomputable def Only (H:Hp):Prop:=∀b,H b=U_∨∃o xs,H b=u_ (.frz o (.lst xs))
theorem law_call {P:o9}{w:og}{K:o0}{mg mb:Str->om o6}{CX:CXT}{k:Nat}{fa a:o3}{fd:Va}{x:Str}{sp:Sp}{O:o7}{vs:oj o6}{ns:oj Int}
  (KX:K.In O.heap) (ae:O.heap.Ns Vv mg) (hb:O.heap.Ns tV mb) (am:∀x:Str,x≠"__name__"->mb x=gW x) (af:O.heap.NoLimit) (hg:O.gens= #[])
  (ha:O.heap.get? a=u_ {cls:= .type "list",data:= .seq vs.toArray}) (hi:Gf vs ns) (hl:ns.length<=Vb) (hr:Room k gS)
  (F:∀base:o8,K.In base->base.Ns Vv mg->FnOk P w K mg base CX k fa fd [x] sp) (ad:∀(s:o7) (u:o6),Gr s fd [[u]:[]] [(x,u)])
  (ag:fd.scope.names.lookup x=u_ .local) (ao:∀H:Hp,Only H->SqL K H a (ns.map V.int)->sp [.ref a] H (λv _=>v= .bl v_) λ_ _ _=>False)
  (ap:∀H e s',CX [] H O (λ_ _ _=>False) e s'->False):
  VD (Vq P w) gS (.call (.ref fa) [[.ref a]:[]]) (λr s'=>r= .ok (.ret (.bool v_))/\OldK O.heap s'.heap/\s'.os=O.os/\VS s'.gens) O:=by
 have rv:=vals_ints hi;have ah:=hi.length;have ac:∀H:Hp,Only H->SqL K H a (ns.map V.int)->HOk P w H O.heap->(∀b,H b≠U_->b=a)->(H a≠U_->K.lookup a=U_)->
   VD (Vq P w) gS (.call (.ref fa) [[.ref a]:[]]) (λr s'=>r= .ok (.ret (.bool v_))/\OldK O.heap s'.heap/\s'.os=O.os/\VS s'.gens) O:=by
  intro H hO hS hok hA hK;have U:∀{b:o3}{o:Obj},O.heap.get? b=u_ o->H b=U_->(hidT O.heap H).get? b=u_ o:=λe n=>hidT_get e n;have aq:∀{b:o3}{o:Obj}{es:Array GF}{ep:Nat},O.heap.get? b=u_ o->o.data= .dict es ep->H b=none:=λ{b o es ep} e d=>by
   cases q:H b with
   |none=>rfl
   |some u=>
    have e':b=a:=hA b (by rw [q];simp)
    subst e';rw [ha] at e;cases e;have d':Data.seq vs.toArray _=Data.dict es ep:=d;cases d'
  have aa:∀{b:o3}{m:Str->om o6},O.heap.Ns b m->(hidT O.heap H).Ns b m:=λ{b m} ⟨o,es,ep,e,d,r⟩=>⟨o,es,ep,U e (aq e d),d,r⟩;have ak:K.In (hidT O.heap H):=λb o e=>U (KX b o e) (by
   cases q:H b with
   |none=>rfl
   |some u=>
    have e':b=a:=hA b (by rw [q];simp)
    subst e';rw [hK (by rw [q];simp)] at e;cases e)
  have hM:Mod K mg (hidT O.heap H):=⟨ak,aa ae,[mb:aa hb:am],let⟨mc,h1,h2⟩:=af;[mc:aa h1:h2]⟩;have e0:Env0 P w K mg (hidT O.heap H) gS [] O H:=⟨1,hM,λb o e=>of_hidT e,Rq (hidT_size _ _),trivial,λb hb=>absurd (show b∈([]:oj o3) from hb) (by simp),hok,.of_eq hg⟩
  refine Hm ((F _ ak (aa ae)).run gS [] O H [[.ref a]:[]] [.ref a] [.ref a] _ _ hr e0 (ad O (.ref a)) (.cons rfl .nil) (ao H hO hS) (.inr [_:0:ag])) λr s' h=> ?_;cases r with
  |error e=>exact(ap H e s' h).elim
  |ok fl=>
   cases fl with
   |next=>exact VB h
   |brk=>exact VB h
   |cont=>exact VB h
   |ret u=>
    erw[h,v,H',os,bare,htk,un,al,r',q];have q':v= .bl true:=q;subst q';obtain rfl:u=HA true:=r';refine⟨1,OldK.of_keep λb o e=> ?_,os,bare⟩;cases q:H b with
    |none=>exact un.keep b o e q (by intro z;exact absurd (show b∈([]:oj o3) from z) (by simp)) (by simp)
    |some u=>
     rcases hO b with z|⟨ob,xs,z⟩
     ·rw [q] at z;cases z
     ·have z2:=un.frzs b ob _ z;erw[hok b _ z,e1,_];erw[al b _ z2,e2,_];rw [e] at e1;cases e1;exact e2
 cases hk:K.lookup a with
 |some o=>
  have e:=KX a o hk;rw [ha] at e;cases e;refine ac (λ_=>U_) (λ_=> .inl rfl) (.inr ⟨_,vs.toArray,_,hk,1,1,1,by rwa [uj,ah],by simpa using rv⟩) (λb u z=>by have z':(U_:om HO)=u_ u:=z;cases z') (λb z=>absurd rfl z) λz=>absurd rfl z
 |none=>
  refine ac (λb=>if b=a then u_ (.frz {cls:= .type "list",data:= .seq vs.toArray} (.lst (ns.map V.int))) else U_) (λb=> ?_) (.inl (.inr [{cls:= .type "list",data:= .seq vs.toArray}:A5 rfl])) (λb u z=> ?_) (λb z=> ?_) λ_=>hk
  ·by_cases hb:b=a
   ·exact .inr [_:_:A5 hb]
   ·exact .inl (A4 hb)
  ·by_cases hb:b=a
   ·have z':=(A5 hb).symm.trans z;cases z';subst hb;exact⟨ha,by rwa [ua],vs,_,rv,ha⟩
   ·have z':=(A4 hb).symm.trans z;cases z'
  ·by_cases hb:b=a
   ·exact hb
   ·exact absurd (A4 hb) z
noncomputable abbrev KOf {K:o0}{h:o8}(_:K.In h):o0:=K
theorem walk_of {l:PySem.W.OpenLaw}{n k:Nat}{q:o9}{U:oj Str}{XP:(Str->om o6)->o8->Prop}{YP:og->o8->Prop}{d:DefRec}{K:Hw->o0}{CX:og->CXT}{sp:og->Sp}{x:Str}
  (hn:l.most=u_ n) (ae:n<=Vb) (af:d.params.defaults= []) (hr:Room k gS)
  (hY:∀(w:og) (h:o8),YP w h->(K w.params).In h)
  (F:∀(w:og) (mg:Str->om o6) (fa:o3) (h:o8),(K w.params).In h->h.Ns Vv mg->mg d.name=u_ (.ref fa)->
   ∃fd:Va,(∀(s:o7) (u:o6),Gr s fd [[u]:[]] [(x,u)])/\fd.scope.names.lookup x=u_ .local/\
    ∀base:o8,(K w.params).In base->base.Ns Vv mg->FnOk l.prog w (K w.params) mg base (CX w) k fa fd [x] (sp w))
  (ag:∀(w:og) (H:Hp) (a:o3) (ns:oj Int),ns.length<=n->Only H->SqL (K w.params) H a (ns.map V.int)->sp w [.ref a] H (λv _=>v= .bl v_) λ_ _ _=>False)
  (ah:∀(w:og) (H:Hp) (s:o7) (e:o6) (s':o7),CX w [] H s (λ_ _ _=>False) e s'->False):
  PySem.W.WalkO q U XP YP l.row.toRowW d [] (λf vs=>PySem.call f vs):=by
 refine Att.attach_call hn af λw s₀ s₁ mg mb fa o pm cd doc a vs ns G Y ho hd al ak ac aa O hg=> ?_;have KX:=hY w _ Y;erw[F w mg fa _ KX G.T.g ak,fd,hb,ad,hF];exact law_call KX G.T.g G.T.b G.T.builtins G.T.nolimit hg ac aa (uI O ae) hr hF hb ad (λH hO hS=>ag w H a ns O hO hS) λH e s'=>ah w H s₁ e s'
theorem walk_ofK {l:PySem.W.OpenLaw}{n k:Nat}{q:o9}{O:oj Str}{XP:(Str->om o6)->o8->Prop}{YP:og->o8->Prop}{d:DefRec}{K:Hw->o0}{CX:CXT}{sp:o0->Sp}{x:Str}
  (hn:l.most=u_ n) (U:n<=Vb) (aa:d.params.defaults= []) (hr:Room k gS)
  (hY:∀(w:og) (h:o8),YP w h->(K w.params).In h)
  (F:∀(w:og) (mg:Str->om o6) (fa:o3) (h:o8),(K w.params).In h->h.Ns Vv mg->mg d.name=u_ (.ref fa)->
   ∃fd:Va,(∀(s:o7) (u:o6),Gr s fd [[u]:[]] [(x,u)])/\fd.scope.names.lookup x=u_ .local/\
    ∀base:o8,(K w.params).In base->base.Ns Vv mg->FnOk l.prog w (K w.params) mg base CX k fa fd [x] (sp (K w.params)))
  (ac:∀(K:o0) (H:Hp) (a:o3) (ns:oj Int),ns.length<=n->Only H->SqL K H a (ns.map V.int)->sp K [.ref a] H (λv _=>v= .bl v_) λ_ _ _=>False)
  (ad:∀(H:Hp) (s:o7) (e:o6) (s':o7),CX [] H s (λ_ _ _=>False) e s'->False):
  PySem.W.WalkO q O XP YP l.row.toRowW d [] (λf vs=>PySem.call f vs):=
 walk_of (K:=K) (CX:=λ_=>CX) (sp:=λw=>sp (K w.params)) hn U aa hr hY F (λw H a ns h1 h2 h3=>ac (K w.params) H a ns h1 h2 h3) λ_ H s e s'=>ad H s e s'
noncomputable def Qe (s:Stmt)(j:Nat):Stmt:=match s with
 | .ClassDef _ _ _ body _ _ _ _ _ _ _=>body.getD j (.Pass ⟨(0),(0),(0),(0)⟩)
 |_=> .Pass ⟨(0),(0),(0),(0)⟩
noncomputable def Yw (s:Stmt):Arguments:=match s with
 | .FunctionDef _ a _ _ _ _ _ _ _ _=>a
 |_=>{posonlyargs:= [],args:= [],vararg:=U_,kwonlyargs:= [],kw_defaults:= [],kwarg:=U_,defaults:= []}
noncomputable def yQ (s:Stmt):oj Stmt:=match s with
 | .FunctionDef _ _ b _ _ _ _ _ _ _=>b
 |_=> []
noncomputable def qj (s:Stmt):Scope:=match s with
 | .FunctionDef _ _ _ _ _ _ sc _ _ _=>sc
 |_=>{kind:= .function,names:= [],isGenerator:=V7,isCoroutine:=V7}
noncomputable abbrev CX0:CXT:=λ_ _ _ _ _ _=>False
noncomputable abbrev E0:XK:=λ_ _ _=>False
variable {X:Cx}
theorem qB:XL CX0 X E0:=λ_ _ _ _ _ _ _ h=>h.elim
structure Fun (K:o0)(x qual:Str)(st:Stmt)(f:o3)(fd:Va):Prop where
 ex:∃(oc:o6) (od:om o3) (kV doc pm:o6) (an:om o3) (cdv ct:o6) (osl:Array (om o6)),
  fd=PySem.W.fnOf x qual (Yw st) (yQ st) (qj st) .none kV doc pm an cdv ct/\K.lookup f=u_ ⟨oc,od,.func fd,osl⟩/\PySem.W.codeIn K cdv qual=v_
 kp:PySem.W.keepIn K (.ref f)=v_
section
variable {P:o9}{w:og}{K:o0}{mg:Str->om o6}{base:o8}
theorem Fun.ok {x qual:Str}{st:Stmt}{f:o3}{fd:Va}{N ps:oj Str}{k:Nat}{sp:Sp}(F:Fun K x qual st f fd)(S:qu N ps (qj st))(len:∀vs H Q E,sp vs H Q E->vs.length=ps.length)
  (O:∀(cdv:o6) (A:oh) (outer:oj Env) (s:o7) (H:Hp) (vs:oj V) (Q:VK) (E:XK),Room k (A.deeper (Vf qual (qj st) s.heap.objs.size f cdv))->sp vs H Q E->
   ∃t,PSs (cxOf CX0 P w K mg base N qual (qj st) f cdv A outer s H E).nox (yQ st) t/\t {nx:=λ_ H'=>Q .non H',rt:=Q} (Kn N vs) H):FnOk P w K mg base CX0 (k+1) f fd ps sp:=by
 erw[F.ex,oc,od,kV,doc,pm,an,cdv,ct,osl,rfl,lk,U];refine fn_of lk U S len λA outer s H vs Q E hr aa=> ?_;erw[O cdv A outer s H vs Q E hr aa,t,h,q];exact[t:h.nox:q]
theorem Fun.binds {x qual:Str}{st:Stmt}{f:o3}{fd:Va}{ps:oj Str}(F:Fun K x qual st f fd)
  (h:∀(kV doc pm:o6) (an:om o3) (cdv ct:o6) (us:oj o6),us.length=ps.length->g_ (PySem.W.fnOf x qual (Yw st) (yQ st) (qj st) .none kV doc pm an cdv ct) [us:[]]=pure (ps.zip us)):zK K fd ps []:=by
 erw[F.ex,oc,od,kV,doc,pm,an,cdv,ct,osl,rfl,lk,O];exact .all (h kV doc pm an cdv ct)
theorem fun_mk {x qual:Str}{st:Stmt}{f:o3}{oc:o6}{od an:om o3}{osl:Array (om o6)}{kV doc pm cdv ct:o6}(l:K.lookup f=u_ ⟨oc,od,.func (PySem.W.fnOf x qual (Yw st) (yQ st) (qj st) .none kV doc pm an cdv ct),osl⟩)
  (c:PySem.W.codeIn K cdv qual=v_) (k:PySem.W.keepIn K (.ref f)=v_):Fun K x qual st f (PySem.W.fnOf x qual (Yw st) (yQ st) (qj st) .none kV doc pm an cdv ct):=[⟨oc,od,kV,doc,pm,an,cdv,ct,osl,1,l,c⟩:k]
end
variable {A:oh}
theorem Qn {k:Nat}(O:Room k A):A.units+1<cLine:=Ur (Nat.add_le_add_left (by decide:1<=64) _) O.units
variable {n:Nat}
theorem X2 (h:n<=1000):n<sizeLine:=Ur h ()
section
variable {X:Cx}
theorem pv (i:Nat){x:Str}{pos:Pos}(U:X.N[i]? =u_ x:=by rfl)(hv:Vis X.env.scope x:=by first|exact gQ rfl|exact V_ (gQ rfl)|exact V_ (V_ rfl))(hd:(x==("__debug__":Str))=false:=by decide)
  (O:(x==("__classdict__":Str))=false:=by decide):PE X (.Name x pos) (tVar i):=pe_var U hv hd O
theorem call_lenD:Ye X (.builtin "len") (λxs H Q=>∃a kvs,xs= [V.ref a]/\H a=u_ (.dK kvs)/\Q (.int kvs.length) H):=by
 intro oq s σ H xs us Q I r h;erw[h,a,kvs,rfl,ha,q];erw[jH r,u,rfl,ru];cases ru;exact d_len I (.inl ha) λt s' O=>⟨.int kvs.length,H,O,[t:1],q⟩
end
theorem iteF {A B:Prop}(h:B):if V7=v_ then A else B:=by
 rw [A4 u9];exact h
theorem iteT {A B:Prop}(h:A):if v_=v_ then A else B:=by
 rw [A5 rfl];exact h
theorem ite2 {c A B:Prop}[Decidable c](h1:c->A)(h2:¬c->B):if c then A else B:=by
 by_cases h:c
 ·rw [A5 h];exact h1 h
 ·rw [A4 h];exact h2 h
noncomputable def Same (H H':Hp):Prop:=∀b o,H b=u_ o->H' b=u_ o
theorem Same.refl (H:Hp):Same H H:=λ_ _ h=>h
variable {H H1 H2:Hp}
theorem Same.trans (a:Same H H1)(b:Same H1 H2):Same H H2:=λc o h=>b c o (a c o h)
variable {H':Hp}
theorem Same.free (e:Same H H'){l:o3}(h:H' l=Option.none):H l=Option.none:=by
 cases q:H l with
 |none=>rfl
 |some o=>
  rw [e l o q] at h;cases h
section
variable {κ:Type}[DecidableEq κ]
variable {kvs:oj (κ×V)}{v:V}
theorem valV_in {k:κ}(h:valV kvs k=u_ v):k∈kvs.map (·.1):=by
 have q:(kvs.any λkv=>decide (kv.1=k))=true:=by
  rw [J2,h]
  all_goals rfl
 erw[List.any_eq_true.mp q,p,O,e];exact Ab.mpr [p:O:um e]
theorem dropK_pos {p:κ×V}{r:oj (κ×V)}{k:κ}(e:p.1=k):Jd (p::r) k=Jd r k:=by
 unfold Jd;rw [vA,A4 (by simp [e])]
theorem dropK_neg {p:κ×V}{r:oj (κ×V)}{k:κ}(e:¬p.1=k):Jd (p::r) k=p::Jd r k:=by
 unfold Jd;rw [vA,A5 (by simp [e])]
end
end L2
namespace L2
open PySem
inductive D where
 |non|bl (b:Bool)|int (i:Int)|str (z:Str)|lst|dct|tup (xs:List D)
noncomputable def QD (c:Nat):Bool:=decide (32<=c)&&decide (c<=126)&&decide (c≠37)
noncomputable def Qp (z:Str):Bool:=decide (z.length<=300)&&z.cps.toList.all QD
mutual
noncomputable def good:D->Bool
 | .str z=>Qp z
 | .tup xs=>decide (xs.length<=40)&&goodL xs
 |_=>V7
noncomputable def goodL:oj D->Bool
 | []=>v_
 |x::r=>good x&&goodL r
end
mutual
noncomputable def sz:D->Nat
 | .str z=>z.length+1
 | .tup xs=>1+szL xs
 |_=>0
noncomputable def szL:oj D->Nat
 | []=>0
 |x::r=>sz x+szL r
end
mutual
noncomputable def dp:D->Nat
 | .str _=>1
 | .tup xs=>1+dpL xs
 |_=>0
noncomputable def dpL:oj D->Nat
 | []=>0
 |x::r=>max (dp x) (dpL r)
end
mutual
noncomputable def nd:D->Nat
 | .tup xs=>1+ndL xs
 |_=>1
noncomputable def ndL:oj D->Nat
 | []=>0
 |x::r=>nd x+ndL r
end
noncomputable def isT (d:D):Bool:=good d&&decide (sz d<=600)&&decide (dp d<=12)
theorem X9:∀(xs ys:oj D),szL (xs++ys)=szL xs+szL ys
 | [],ys=>by simp [szL]
 |x::r,ys=>by simp only [vT,szL,X9 r ys];omega
theorem ze:∀(xs ys:oj D),ndL (xs++ys)=ndL xs+ndL ys
 | [],ys=>by simp [ndL]
 |x::r,ys=>by simp only [vT,ndL,ze r ys];omega
theorem wR {k:Nat}:∀(xs:oj D),dpL xs<=k↔∀x∈xs,dp x<=k
 | []=>by simp [dpL]
 |x::r=>by
  have U:=wR (k:=k) r;have e:dpL (x::r)=max (dp x) (dpL r):=by simp only [dpL]
  rw [e];constructor
  ·intro h y O;rcases A8.mp O with rfl|O
   ·omega
   ·exact U.mp () y O
  ·intro h;have h1:=h x uf;have h2:=U.mpr λy O=>h y (ue _ O);omega
theorem dp_pos {d:D}(h:good d=v_):1<=dp d:=by
 cases d<;>simp_all [good,dp]
noncomputable def wOk (w:oj (D×Nat)):Bool:=w.all λp=>good p.1&&decide (p.2+dp p.1<=13)
noncomputable def wSz (w:oj (D×Nat)):Nat:=szL (w.map (·.1))
noncomputable def G (w:oj (D×Nat))(n:Nat):Bool:=wOk w&&decide (n+wSz w<=600)
theorem G_start (d:D):G [(d,1)] 0=isT d:=by
 simp only [G,wOk,wSz,isT,vz,TR,uq,U0,szL,Ug,G_,rm];have e:decide (1+dp d<=13)=decide (dp d<=12):=by
  rw [uZ];omega
 rw [e];cases good d<;>cases decide (sz d<=600)<;>cases decide (dp d<=12)<;>rfl
variable {n:Nat}
theorem G_nil (h:n<=600):G [] n=true:=by simp [G,wOk,wSz,szL,h]
theorem G_snoc (w:oj (D×Nat))(d:D)(k n:Nat):G (w++ [(d,k)]) n=(wOk w&&(good d&&decide (k+dp d<=13))&&decide (n+(wSz w+sz d)<=600)):=by
 simp only [G,wOk,wSz,UR,vz,TR,Ug,Vc,uq,U0,X9,szL,rm]
 rfl
theorem G_bad {w:oj (D×Nat)}{d:D}{k:Nat}(h:good d=V7):G (w++ [(d,k)]) n=false:=by
 rw [G_snoc,h];simp
theorem G_deep {w:oj (D×Nat)}{d:D}{k:Nat}(h:12<k):G (w++ [(d,k)]) n=false:=by
 rw [G_snoc];cases O:good d with
 |false=>simp
 |true=>
  have:=dp_pos O;have e:decide (k+dp d<=13)=false:=uc ()
  rw [e];simp
theorem G_big {w:oj (D×Nat)}{d:D}{k:Nat}(h:600<n+sz d):G (w++ [(d,k)]) n=false:=by
 rw [G_snoc];have e:decide (n+(wSz w+sz d)<=600)=false:=uc ()
 rw [e];simp
theorem G_big1 {w:oj (D×Nat)}{xs:oj D}{k:Nat}(h:600<n+1):G (w++ [(.tup xs,k)]) n=false:=G_big (by simp only [sz];omega)
theorem wOk_map (xs:oj D)(k:Nat):wOk (xs.map λx=>(x,k+1))=(goodL xs&&xs.all λx=>decide (k+1+dp x<=13)):=by
 induction xs with
 |nil=>rfl
 |cons x r O=>
  simp only [uq,wOk,vz,goodL] at O⊢;rw [O];cases good x<;>cases decide (k+1+dp x<=13)<;>cases goodL r<;>simp
theorem wSz_map (xs:oj D)(k:Nat):wSz (xs.map λx=>(x,k+1))=szL xs:=by
 unfold wSz;rw [uK]
 congr 1
 induction xs with
 |nil=>rfl
 |cons x r O=>simp only [uq,O];rfl
theorem G_tup {w:oj (D×Nat)}{xs:oj D}{k:Nat}(U:xs.length<=40)(hk:k<=12):G (w++ [(.tup xs,k)]) n=G (w++xs.map λx=>(x,k+1)) (n+1):=by
 rw [G_snoc];unfold G;have e1:wOk (w++xs.map λx=>(x,k+1))=(wOk w&&wOk (xs.map λx=>(x,k+1))):=by unfold wOk;rw [UR]
 have e2:wSz (w++xs.map λx=>(x,k+1))=wSz w+szL xs:=by
  have:=wSz_map xs k;unfold wSz at this⊢;rw [Vc,X9,this]
 have e3:decide (k+dp (.tup xs)<=13)=xs.all λx=>decide (k+1+dp x<=13):=by
  have q:=wR (k:=12-k) xs;have e0:dp (.tup xs)=1+dpL xs:=by simp only [dp]
  rw [e0,vD];constructor
  ·intro h;have h:=um h;refine List.all_eq_true.mpr λx O=>ub ?_;have h2:=q.mp () x O
   omega
  ·intro h;refine ub ?_;have h2:=q.mpr λx O=>by
    have h3:=um (List.all_eq_true.mp h x O);omega
   omega
 rw [e1,e2,e3,wOk_map];have e4:good (.tup xs)=goodL xs:=by simp only [good,ub U,Hq]
 have e5:decide (n+(wSz w+sz (.tup xs))<=600)=decide (n+1+(wSz w+szL xs)<=600):=by
  rw [uZ];simp only [sz];omega
 rw [e4,e5]
variable {z:Str}
theorem G_str {w:oj (D×Nat)}{k:Nat}(O:Qp z=v_)(hk:k<=12):G (w++ [(.str z,k)]) n=G w (n+(1+z.length)):=by
 rw [G_snoc];unfold G;have U:good (.str z)=true:=by simp only [good,O]
 have e3:decide (k+dp (.str z)<=13)=true:=ub (by simp only [dp];omega)
 have e5:decide (n+(wSz w+sz (.str z))<=600)=decide (n+(1+z.length)+wSz w<=600):=by
  rw [uZ];simp only [sz];omega
 rw [U,e3,e5];simp
end L2
namespace AwZ
open PySem PyProof.Rows
open PySem.AutoSeq1 (wpAny_loadPart')
section
variable {prog:o9}{w:og}{A:oh}{E:o6->o7->Prop}{s:o7}
theorem tdraw {j t:o3}{i:Nat}{its:Array o6}{x:o6}{Q:o6->o7->Prop}(U:s.heap.IsTupleIter j t i)(gt:s.heap.IsTuple t its)(gx:its[i]? =u_ x)
  (q:∀h2,h2.IsTupleIter j t (i+1)->GN j s.heap h2->Q x {s with heap:=h2}):V8 #[w,w] A (Gg (.ref j)) Q E s:=by
 erw[id U,u,O,cu,du];erw[gt,ut,aa,_,nt,ac];unfold Gg;refine A6 (vF (name:=G9 "__next__") U.typeIs vX
  (vS vX U.typeIs F.entry_tuple_iterator_next ?_ (F.args_tuple_iterator_next_1 _)))
 show V8 _ _ (gT (.ref j) 0>>=_) _ _ s;refine A6 (vE O du (x:= .ref t) rfl ?_);show V8 _ _ (if(Ve t==VP)=v_ then _ else _) _ _ s
 rw [A4 (show¬(Ve t==VP)=v_ from u9)]
 show V8 _ _ (gT (.ref j) 1>>=_) _ _ s;refine A6 (vE O du (x:= .int i 0) rfl ?_);show V8 _ _ (Tq (.ref t)>>=_) _ _ s;refine A6 (U8 aa ac ?_);simp only [HP,gx];refine A6 (RE O du (by simp) (uw [x:1:uw (q _ ?_ (rT ..))]))
 exact⟨_,Hv _ O (Obj.isFreed_of_fields (FW du _)),(Obj.cls_mapFields ..).trans cu,by rw [FW du];simp [VX]⟩
theorem tdraw_end {j t:o3}{i:Nat}{its:Array o6}{Q:o6->o7->Prop}(hh:A.handled=U_)(O:s.heap.IsTupleIter j t i)(gt:s.heap.IsTuple t its)(gx:its[i]? =U_)
  (q:∀h2 e,Heap.ExtBut j s.heap h2->(∃u,h2.get? e=u_ u/\u.cls= .type "StopIteration")->E (.ref e) {s with heap:=h2}):V8 #[w,w] A (Gg (.ref j)) Q E s:=by
 erw[id O,u,U,cu,du];erw[gt,ut,aa,_,nt,ac];unfold Gg;refine A6 (vF (name:=G9 "__next__") O.typeIs vX
  (vS vX O.typeIs F.entry_tuple_iterator_next ?_ (F.args_tuple_iterator_next_1 _)))
 show V8 _ _ (gT (.ref j) 0>>=_) _ _ s;refine A6 (vE U du (x:= .ref t) rfl ?_);show V8 _ _ (if(Ve t==VP)=v_ then _ else _) _ _ s
 rw [A4 (show¬(Ve t==VP)=v_ from u9)]
 show V8 _ _ (gT (.ref j) 1>>=_) _ _ s;refine A6 (vE U du (x:= .int i 0) rfl ?_);show V8 _ _ (Tq (.ref t)>>=_) _ _ s;refine A6 (U8 aa ac ?_);simp only [HP,gx];refine A6 (UU (A6 (RE U du (by simp) ?_)))
 show V8 _ _ (newExc (.type "StopIteration") []>>=_) _ _ _;refine A6 ?_;simp only [newExc,newTuple];refine A6 (vw ?_ (by size_fits))
 refine A6 (m:=HR _ _) (Tt (a:=VP) (by first|rfl|(simp only [HR];rfl)) ?_)
 refine vw ?_ (by size_fits)
 simp only [raiseNew];refine A6 (wpAny_handled ?_)
 first|rw [show A.in1.handled=U_ from hh]|rw [hh]
 refine A6 (uw (Ro ?_));exact q _ _ (((rT ..).extBut.push _).push _) [_:uC _ rfl:1]
structure Apt (z p r i j a b:o3):Prop where
 pz:p≠z
 rz:r≠z
 iz:i≠z
 jz:j≠z
 pr:p≠r
 pi:p≠i
 pj:p≠j
 ri:r≠i
 rj:r≠j
 ij:i≠j
 az:a≠z
 ar:a≠r
 ai:a≠i
 aj:a≠j
 bz:b≠z
 br:b≠r
 bi:b≠i
 bj:b≠j
theorem ziptl {z p r i j a b:o3}{k:Nat}{xs ys:Array o6}{x y u v:o6}{Q:o6->o7->Prop}(D:Apt z p r i j a b)
  (hz:VA s.heap z p r .none) (hp:Vn s.heap p (.ref i) (.ref j)) (hr:Vn s.heap r u v)
  (hi:s.heap.IsTupleIter i a k) (hj:s.heap.IsListIter j b k) (ha:s.heap.IsTuple a xs) (hb:s.heap.IsList b ys) (hx:xs[k]? =u_ x) (hy:ys[k]? =u_ y)
  (q:∀h2,VA h2 z p r (VX s.heap.objs.size)->Vn h2 r x y->h2.IsTupleIter i a (k+1)->h2.IsListIter j b (k+1)->Vn h2 s.heap.objs.size x y->h2.objs.size=s.heap.objs.size+1->
   (∀c o,c≠z->c≠r->c≠i->c≠j->s.heap.get? c=u_ o->h2.get? c=u_ o)->Q (.ref s.heap.objs.size) {s with heap:=h2}):
  V8 #[w,w] A (Ge.«zip.__next__» [[.ref z]:[]]) (λfin t=>∃v,fin= .done (.ret v)/\Q v t) E s:=by
 show V8 _ _ (gT (.ref z) 2>>=_) _ _ _;refine A6 (vE hz rfl (x:= .bool V7) rfl ?_);show V8 _ _ (gT (.ref z) 3>>=_) _ _ _;refine A6 (vE hz rfl (x:= .ref p) rfl ?_);refine A6 (U8 hp rfl ?_);show V8 _ _ (HI (.ref z)>>=_) _ _ s;refine A6 ?_;unfold HI;refine A6 (vE hz rfl (x:= .none) rfl (uw ?_));simp only [V6];refine A6 (UU ?_);refine A6 (vE hz rfl (x:= .ref r) rfl ?_);refine A6 (Us hz (by simp) λh1 z1 s1=> ?_)
 replace z1:VA h1 z p r .ellipsis:=z1
 refine A6 ?_;simp only [rH,rh,Uw,RL];refine A6 (A6 (T6 ?_));show V8 _ _ (Gg (.ref i)>>=_) _ _ _;refine A6 (tdraw (hi.extBut s1.extBut D.iz) (ha.extBut s1.extBut D.az) hx λh2 i2 s2=>uw ?_);have r2:Vn h2 r u v:=s2.extBut _ _ D.ri (s1.extBut _ _ D.rz hr);refine A6 (U8 r2 rfl ?_);refine A6 (RI r2 λh3 r3 U=> ?_)
 replace r3:Vn h3 r x v:=r3
 refine A6 (tq (uw ?_));refine A6 (A6 (T6 ?_));show V8 _ _ (Gg (.ref j)>>=_) _ _ _;refine A6 (wpAny_nextOf_list_item (((hj.extBut s1.extBut D.jz).extBut s2.extBut D.ij.symm).extBut U.extBut D.rj.symm)
  (((hb.extBut s1.extBut D.bz).extBut s2.extBut D.bi).extBut U.extBut D.br) hy λh4 j4 s4=>uw ?_)
 have r4:Vn h4 r x v:=s4.extBut _ _ D.rj r3;refine A6 (U8 r4 rfl ?_);refine A6 (RI r4 λh5 r5 s5=> ?_)
 replace r5:Vn h5 r x y:=r5
 refine A6 (tq (uw (uw ?_)));refine A6 (U8 r5 rfl ?_);refine A6 (wpAny_newTuple ?_);have sz:h5.objs.size=s.heap.objs.size:=by rw [s5.1,s4.1,U.1,s2.1,s1.1]
 have z5:VA h5 z p r .ellipsis:=s5.extBut _ _ D.rz.symm (s4.extBut _ _ D.jz.symm (U.extBut _ _ D.rz.symm (s2.extBut _ _ D.iz.symm z1)));have k5:∀c o,c≠z->c≠r->c≠i->c≠j->s.heap.get? c=u_ o->h5.get? c=u_ o:=λc o O c2 c3 c4 e=>
  s5.extBut _ _ c2 (s4.extBut _ _ c4 (U.extBut _ _ c2 (s2.extBut _ _ c3 (s1.extBut _ _ O e))))
 have i5:h5.IsTupleIter i a (k+1):=((i2.extBut U.extBut D.ri.symm).extBut s4.extBut D.ij).extBut s5.extBut D.ri.symm;have j5:h5.IsListIter j b (k+1):=j4.extBut s5.extBut D.rj.symm;have aa:z<h5.objs.size:=uA z5;show V8 _ _ (rn (.ref z) (.ref h5.objs.size)>>=_) _ _ _;refine A6 ?_;unfold rn;have z6:VA (h5.push {cls:= .type "tuple",data:= .seq #[x,y]}) z p r .ellipsis:=ud _ z5;refine A6 (Us z6 (by simp) λh7 z7 s7=> ?_)
 replace z7:VA h7 z p r (VX h5.objs.size):=z7
 refine Us z7 (by simp) λh8 z8 s8=> ?_
 replace z8:VA h8 z p r (VX h5.objs.size):=z8
 have up:∀c o,c≠z->h5.get? c=u_ o->h8.get? c=u_ o:=λc o O e=>s8.extBut _ _ O (s7.extBut _ _ O (ud _ e));have t8:Vn h8 h5.objs.size x y:=s8.extBut _ _ (vU aa) (s7.extBut _ _ (vU aa) (uC _ rfl));have n8:h8.objs.size=h5.objs.size+1:=by rw [s8.1,s7.1,vt]
 rw [sz] at z8 t8 n8;refine uw [0:?_];show Q (.ref h5.objs.size) _;rw [sz];exact q h8 z8 (up _ _ D.rz r5) (by erw[i5,o,e,g];exact[o:up _ o D.iz e:g]) (j5.at λo e=>up _ o D.jz e) t8 n8 λc o O c2 c3 c4 e=>up c o O (k5 c o O c2 c3 c4 e)
theorem zip_go {z p r i j a b:o3}{k:Nat}{xs ys:Array o6}{x y u v:o6}{Q:om o6->o7->Prop}(D:Apt z p r i j a b)
  (O:VA s.heap z p r .none) (hp:Vn s.heap p (.ref i) (.ref j)) (hr:Vn s.heap r u v)
  (hi:s.heap.IsTupleIter i a k) (hj:s.heap.IsListIter j b k) (ha:s.heap.IsTuple a xs) (hb:s.heap.IsList b ys) (hx:xs[k]? =u_ x) (hy:ys[k]? =u_ y)
  (q:∀h2,VA h2 z p r (VX s.heap.objs.size)->Vn h2 r x y->h2.IsTupleIter i a (k+1)->h2.IsListIter j b (k+1)->Vn h2 s.heap.objs.size x y->h2.objs.size=s.heap.objs.size+1->
   (∀c o,c≠z->c≠r->c≠i->c≠j->s.heap.get? c=u_ o->h2.get? c=u_ o)->Q (u_ (.ref s.heap.objs.size)) {s with heap:=h2}):
  V8 #[w,w] A (VY (.ref z)) Q E s:=by
 have U:s.TypeIs (.ref z) "zip":=[_:O:1];unfold VY;exact A6 (Hj (vF (name:=G9 "__next__") U F.slot_zip_next
  (vS F.slot_zip_next U F.entry_zip_next (ziptl D O hp hr hi hj ha hb hx hy λh2 b1 b2 b3 b4 b5 b6 b7=>uw (q h2 b1 b2 b3 b4 b5 b6 b7)) (F.args_zip_next_1 _))))
theorem zip_stop {z p r i j a b:o3}{k:Nat}{xs:Array o6}{Q:om o6->o7->Prop}(hh:A.handled=U_)(D:Apt z p r i j a b)
  (O:VA s.heap z p r .none) (hp:Vn s.heap p (.ref i) (.ref j)) (hi:s.heap.IsTupleIter i a k) (ha:s.heap.IsTuple a xs) (hx:xs[k]? =U_)
  (q:∀h2,(∀c o,c≠z->c≠r->c≠i->c≠j->s.heap.get? c=u_ o->h2.get? c=u_ o)->Q U_ {s with heap:=h2}):V8 #[w,w] A (VY (.ref z)) Q E s:=by
 have tz:s.TypeIs (.ref z) "zip":=[_:O:1];unfold VY;refine A6 (Hj (vF (name:=G9 "__next__") tz F.slot_zip_next
  (vS F.slot_zip_next tz F.entry_zip_next ?_ (F.args_zip_next_1 _))))
 show V8 _ _ (gT (.ref z) 2>>=_) _ _ _;refine A6 (vE O rfl (x:= .bool V7) rfl ?_);show V8 _ _ (gT (.ref z) 3>>=_) _ _ _;refine A6 (vE O rfl (x:= .ref p) rfl ?_);refine A6 (U8 hp rfl ?_);show V8 _ _ (HI (.ref z)>>=_) _ _ s;refine A6 ?_;unfold HI;refine A6 (vE O rfl (x:= .none) rfl (uw ?_));simp only [V6];refine A6 (UU ?_);refine A6 (vE O rfl (x:= .ref r) rfl ?_);refine A6 (Us O (by simp) λh1 U s1=> ?_)
 replace U:VA h1 z p r .ellipsis:=U
 refine A6 ?_;simp only [rH,rh,Uw,RL];refine A6 (A6 (T6 ?_));show V8 _ _ (Gg (.ref i)>>=_) _ _ _;refine A6 (tdraw_end hh (hi.extBut s1.extBut D.iz) (ha.extBut s1.extBut D.az) hx λh2 e s2 he=> ?_);erw[he,oe,ge,ce];have z2:VA h2 z p r .ellipsis:=s2 _ _ D.iz.symm U;have ez:e≠z:=λx=>by subst x;rw [z2] at ge;cases ge;simp at ce
 refine Us z2 (by simp) λh3 _ s3=> ?_
 refine A6 (UE (T:="StopIteration") (b:=v_) [oe:s3.extBut _ _ ez ge:ce] isSubtype_stop ?_);exact uw (q _ λc o c1 _ c3 _ x=>s3.extBut _ _ c1 (s2 _ _ c3 (s1.extBut _ _ c1 x)))
noncomputable abbrev q1 (h:o8)(a:o3):o8:=h.push {cls:= .type "tuple_iterator",data:= .fields #[.ref a,.int 0 0]}
noncomputable abbrev q2 (h:o8)(a b:o3):o8:=(q1 h a).push {cls:= .type "list_iterator",data:= .fields #[.ref b,.int 0 0]}
noncomputable abbrev q3 (h:o8)(a b:o3):o8:=(q2 h a b).push {cls:= .type "tuple",data:= .seq #[.ref h.objs.size,.ref (q1 h a).objs.size]}
noncomputable abbrev q4 (h:o8)(a b:o3):o8:=(q3 h a b).push {cls:= .type "tuple",data:= .seq #[.none,.none]}
noncomputable abbrev q5 (h:o8)(a b:o3):o8:=(q4 h a b).push {cls:= .type "zip",data:= .fields #[.none,.bool V7,.bool V7,.ref (q2 h a b).objs.size,.ref (q3 h a b).objs.size]}
theorem zip_made (a b:o3)(xs ys:Array o6):Meets (Ge.«zip.__new__» [[.type "zip",.ref a,.ref b]:[]]) (λ_ R s=>s.heap.IsTuple a xs/\s.heap.IsList b ys/\R (.ok (.ret (.ref (q4 s.heap a b).objs.size))) {s with heap:=q5 s.heap a b}):=
 .of_wp λprog w A R s h=>by
  erw[s,O,g,d,tk,os];erw[h,ha,U,h];have sub:=sub_zip;have h1:Heap.IsTuple (Fk ⟨O,g,d,tk,os⟩) a xs:=ha;have h2:Heap.IsList (Fk ⟨O.push {cls:= .type "tuple_iterator",data:= .fields #[.ref a,.int 0 0]},g,d,tk,os⟩) b ys:=p9 U _
  wp_walk using tZ h1,UT h2
  exact[0:h]
theorem zip_call {a b:o3}{xs ys:Array o6}{Q:o6->o7->Prop}(ha:s.heap.IsTuple a xs)(hb:s.heap.IsList b ys)
  (h:∀h2,VA h2 (s.heap.objs.size+4) (s.heap.objs.size+2) (s.heap.objs.size+3) .none->Vn h2 (s.heap.objs.size+2) (.ref s.heap.objs.size) (.ref (s.heap.objs.size+1))->
   Vn h2 (s.heap.objs.size+3) .none .none->h2.IsTupleIter s.heap.objs.size a 0->h2.IsListIter (s.heap.objs.size+1) b 0->h2.objs.size=s.heap.objs.size+5->
   (∀c o,s.heap.get? c=u_ o->h2.get? c=u_ o)->Q (.ref (s.heap.objs.size+4)) {s with heap:=h2}):V8 #[w,w] A (call (.type "zip") [.ref a,.ref b]) Q E s:=by
 refine callType_new F.called_zip () (F.typeCall_zip_2 _ _) (F.newCall_zip_2 _ _) (λobj=>F.args_object_init_3 obj _ _) F.entry_zip_new (zip_made a b xs ys) [ha:hb:?_]
 have O:(q1 s.heap a).objs.size=s.heap.objs.size+1:=vt ..;have U:(q2 s.heap a b).objs.size=s.heap.objs.size+2:=by rw [vt,O]
 have z3:(q3 s.heap a b).objs.size=s.heap.objs.size+3:=by rw [vt,U]
 have z4:(q4 s.heap a b).objs.size=s.heap.objs.size+4:=by rw [vt,z3]
 have z5:(q5 s.heap a b).objs.size=s.heap.objs.size+5:=by rw [vt,z4]
 have g5:(q5 s.heap a b).get? (q4 s.heap a b).objs.size=u_ _:=uC _ rfl;have g4:(q5 s.heap a b).get? (q3 s.heap a b).objs.size=u_ _:=ud _ (uC _ rfl);have g3:(q5 s.heap a b).get? (q2 s.heap a b).objs.size=u_ _:=ud _ (ud _ (uC _ rfl));have g2:(q5 s.heap a b).get? (q1 s.heap a).objs.size=u_ _:=ud _ (ud _ (ud _ (uC _ rfl)));have g1:(q5 s.heap a b).get? s.heap.objs.size=u_ _:=ud _ (ud _ (ud _ (ud _ (uC _ rfl))));show _/\_;rw [U,z3,z4] at g5;rw [O,U] at g3;rw [z3] at g4;rw [O] at g2;rw [z4];exact[[_:g5:1]:h _ g5 g3 g4 ⟨_,g1,1,1⟩ ⟨_,g2,1,1⟩ z5 λc o x=>ud _ (ud _ (ud _ (ud _ (ud _ x))))]
end
end AwZ
namespace L2
open PySem PySem.Spec PyProof.Rows
noncomputable def Its (x:Str):It:=⟨λi _=>i<x.cps.size,λi H v H'=>H'=H/\∃c,x.cps[i]? =u_ c/\v= .str ⟨#[c]⟩,λi _=>i=x.cps.size⟩
variable {w:og}{K:o0}{tg:Expr}{x:Str}
theorem turn_str {P:o9}{t:Tok}{it:o3}(ty:String)(O:ty="str_ascii_iterator"∨ty="str_iterator"):
  Turn P w K tg (Its x) [it] it (λi h=>h.IsStrIter it ty x t i) where
 mem:=by simp
 obj:=λi h st b U=>by
  have e:b=it:=by simpa using U
  subst e;erw[st,o,e,c,d];exact⟨o,e,λv z=>by rw [d] at z;cases z⟩
 keep:=λi h h' st k=>by
  erw[st,o,e,r];exact⟨o,k it (by simp) o e,r⟩
 item:=by
  intro X hP hw hK hc i oq s σ H E I hf st hg;subst hP hw hK;obtain⟨f0,f1,f2,f3,f4,f5⟩:=hf it (by simp)
  have W:Walks X.prog X.w X.A it [it] [it] x.cps.size (SignAt x) (λi h=>h.IsStrIter it ty x t i):=by
   rcases O with rfl|rfl
   ·exact rA (I.ok.hd hc) it x t
   ·exact Fp (I.ok.hd hc) it x t
  refine uS (n:=1) I.tk (W.item i s _ _ hg st λv h' tk hv aa kk=> ?_);intro htk;erw[hv,c,u,hx,rfl];have I1:Inv X oq σ H {s with heap:=h',toks:=tk}:=I.turned (λb o U e=>kk b o (by simpa using U) e) f0 f1 f3 f4 f5
  erw[id aa,o,e,c',d];refine⟨0,go_of (s:={s with heap:=h',toks:=tk}) e c' d (by rcases O with rfl|rfl<;>decide) ⟨.str ⟨#[c]⟩,H,I1,[u:1],⟨1,c,hx,1⟩,aa,λb U=>(hf b U).1⟩⟩
 done:=by
  intro X hP hw hK hc i oq s σ H E I hf st hg;subst hP hw hK;have ac:i=x.cps.size:=hg;subst ac;obtain⟨f0,f1,f2,f3,f4,f5⟩:=hf it (by simp)
  have W:Walks X.prog X.w X.A it [it] [it] x.cps.size (SignAt x) (λi h=>h.IsStrIter it ty x t i):=by
   rcases O with rfl|rfl
   ·exact rA (I.ok.hd hc) it x t
   ·exact Fp (I.ok.hd hc) it x t
  exact uS (n:=1) I.tk (W.done s _ _ st λh' tk kk htk=>⟨1,I.turned (λb o U e=>kk b o (by simpa using U) e) f0 f1 f3 f4 f5⟩)
 self:=λ_ _ _ _ _ st h=>by
  rcases O with rfl|rfl
  ·exact wpAny_pyIter_striter_ascii st h
  ·exact wpAny_pyIter_striter_wide st h
section
variable {X:Cx}{tg:Expr}
inductive IiStr (R:(It->Hp->Prop)) (x:V) (H1:Hp):Prop
 |mk (z:_) (_:x= .str z) (_:R (Its z) H1)
noncomputable def iStr (tl:TE):TI:=λσ H R=>tl σ H λx H1=>IiStr R x H1
theorem pi_str {l:Expr}{tl:TE}(U:PE X l tl):PI X tg l (iStr tl):=by
 intro oq s σ H R I h;refine thn (U oq s σ H _ I h) λv s1 zq=> ?_;erw[zq,x,H1,O,r1,q1];erw[q1,z,e,q];subst e;erw[r1,t,rfl];have fp:∀(o:Obj),∀b∈ [s1.heap.objs.size],FpOk X oq H1 b:=λo b hb=>by
  have e:b=s1.heap.objs.size:=by simpa using hb
  subst e;exact O.fpOk (uh _) (O.hok.fresh (uh _))
 cases ha:z.cps.all (·<128)
 ·refine wpAny_pyIter_wide ha ?_;exact⟨s1.heap.objs.size,[s1.heap.objs.size],_,_,H1,1,O.kept (t':=s1.toks) λb o e=>ud _ e,turn_str "str_iterator" (.inr rfl),⟨_,uC _ rfl,1,1⟩,fp default,q⟩
 ·refine wpAny_pyIter_ascii ha ?_;exact⟨s1.heap.objs.size,[s1.heap.objs.size],_,_,H1,1,O.kept (t':=s1.toks) λb o e=>ud _ e,turn_str "str_ascii_iterator" (.inl rfl),⟨_,uC _ rfl,1,1⟩,fp default,q⟩
inductive rSlS (x:V) (lo:Option Int) (hi:Option Int) (H:Hp) (Q:VK):Prop
 |mk (z:_) (_:x= .str z) (_:z.length<=Vb) (_:Q (.str (VT z lo hi)) H)
noncomputable def tokOf:o6->om (Int×Tok)
 | .int i t=>u_ (i,t)
 |_=>U_
theorem sl_str:SlR X rSlS:=by
 intro oq s σ H x v O U lo hi sl Q I rx hs pl pu h;erw[h,z,rfl,hz,q];erw[rx,t,rfl];exists "str",_,F.slot_str_getitem.lookup,vP _ _ _;have hl:O=partValue (tokOf O)/\lo=(tokOf O).map (·.1):=by cases pl<;>exact[1:1]
 have hu:U=partValue (tokOf U)/\hi=(tokOf U).map (·.1):=by cases pu<;>exact[1:1]
 erw[hs,o,e1,e2,e3];refine uS (n:=1) I.tk ?_;refine wpAny_getItem_str_slice (l:=tokOf O) (u:=tokOf U) (st:=U_) ⟨o,e1,e2,by rw [e3,<-hl.1,<-hu.1];rfl⟩ rfl ?_
 refine post_val_or_str [?_:λt' k=> ?_]
 ·exact uI (Ff z _ _) hz
 ·intro htk;exact⟨.str (VT z lo hi),H,I.tok k,⟨t',by rw [hl.2,hu.2];rfl⟩,q⟩
theorem qU {K:o0}(U:X.K=K):Ye X (.builtin "isinstance") (λxs H Q=>∃x T t b,xs= [x,.ty T]/\TyOf K H x t/\PySem.W.kitOne K t (.type T)=u_ b/\Q (.bl b) H):=by
 intro oq s σ H xs us Q I r h;erw[h,x,T,t,b,rfl,ty,e,q];erw[vals2 r,u,u',rfl,ru,O];cases O;subst U;exact uS (n:=1) I.tk (isinst_ok I ru ty e λtk htk=>⟨.bl b,H,I.tok tk,1,q⟩)
theorem all_range:∀bs:oj Bool,(Vi bs.length).all (λi=>bs.getD i v_)=bs.all id
 | []=>rfl
 |b::r=>by
  rw [ui,tQ,vz,UJ,vz];have e:(Vi r.length).all ((λi=>(b::r).getD i v_)∘Tj)=(Vi r.length).all λi=>r.getD i true:=by
   congr 1
  rw [e,all_range r]
  rfl
theorem wH (hc:X.calm=v_):Ye X (.builtin "all") (λxs H Q=>∃(p:o3) (bs:oj Bool),xs= [.ref p]/\SqL X.K H p (bs.map V.bl)/\Q (.bl (bs.all id)) H):=by
 intro oq s σ H xs us Q I r h;erw[h,p,bs,rfl,hp,q];erw[jH r,u,rfl,ru];cases ru;erw[I.list hp,its,rv,pl,hz];have ac:p<s.heap.objs.size:=by erw[pl,o,n,e,_];exact uA e
 refine uS (n:=1) I.tk ?_;refine call_all_walk (UT pl.isList ?_);have up:∀b o,s.heap.get? b=u_ o->(s.heap.push {cls:= .type "list_iterator",data:= .fields #[.ref p,.int 0 0]}).get? b=u_ o:=λb o e=>ud _ e;have hl:its.length=bs.length:=by have:=rv.length;simpa using this.symm
 refine⟨s.heap.objs.size,_,_,_,_,_,λi=>bs.getD i v_,1,Walks.list (show X.A.in1.handled=U_ from I.ok.hd hc) s.heap.objs.size p (uL ac) its.toArray,[⟨_,uC _ rfl,1,1⟩:pl.isList.push _],?_,?_⟩
 ·intro i v s' Q' E' hv hQ;have O:its[i]? =u_ v:=by simpa using hv
  have hi:i<its.length:=(Ae.mp O).1;obtain⟨u,e1,e2⟩:=rv.get (i:=i) (x:= .bl (bs[i]'())) (by simp [show i<bs.length by omega])
  rw [O] at e1;cases e1;cases e2;have:bs.getD i v_=bs[i]'():=by simp [VW,show i<bs.length by omega]
  have U:Q' (bs.getD i v_) s':=hQ;rw [this] at U;exact vB U
 ·intro h' tk kk htk;have aa:(Vi its.toArray.size).all (λi=>bs.getD i v_)=bs.all id:=by
   rw [uj,hl];exact all_range bs
  rw [aa];have I1:=I.kept (t':=s.toks) (h':=s.heap.push {cls:= .type "list_iterator",data:= .fields #[.ref p,.int 0 0]}) up;have ad:=I.fpOk (uh _) (I.hok.fresh (uh s.heap.objs.size));erw[ad,f0,f1,f2,f3,f4,f5];exact⟨.bl (bs.all id),H,I1.turned (it:=s.heap.objs.size) (λb o hb e=>kk b o (by simpa using hb) e) f0 f1 f3 f4 f5,1,q⟩
end
section
variable {X:Cx}
theorem Kg {x:Str}{i:Int}{pos:Pos}(O:Gl X x)(hm:∃t,X.mg x=u_ (.int i t))(hd:(x==("__debug__":Str))=V7):PE X (.Name x pos) (tC (.int i)):=by
 erw[hm,t,hm];exact pe_glob O hm [t:1] hd
theorem pe_gS {x z:Str}{pos:Pos}(O:Gl X x)(hm:∃t,X.mg x=u_ (.str z t))(hd:(x==("__debug__":Str))=V7):PE X (.Name x pos) (tC (.str z)):=by
 erw[hm,t,hm];exact pe_glob O hm [t:1] hd
theorem pe_gR {x:Str}{a:o3}{pos:Pos}(O:Gl X x)(hm:X.mg x=u_ (.ref a))(hd:(x==("__debug__":Str))=V7):PE X (.Name x pos) (tC (.ref a)):=pe_glob O hm rfl hd
end
variable {H:Hp}{p:o3}
theorem qg (h:H p=U_)(o:HO):Same H (upd H p o):=λb u q=>by rw [qi (qk q h)];exact q
noncomputable def Kept (p:o3)(H H':Hp):Prop:=∀b o,H b=u_ o->b≠p->H' b=u_ o
theorem Kept.refl (p:o3)(H:Hp):Kept p H H:=λ_ _ h _=>h
variable {H1 H2:Hp}
theorem Kept.trans (a:Kept p H H1)(b:Kept p H1 H2):Kept p H H2:=λc o h n=>b c o (a c o h n) n
theorem Kept.upd (p:o3)(H:Hp)(o:HO):Kept p H (L2.upd H p o):=λb u h n=>by rw [qi n];exact h
variable {H':Hp}
theorem Kept.same (k:Kept p H1 H')(s:Same H H1)(n:H p=U_):Same H H':=λb o h=>k b o (s b o h) (qk h n)
variable {i:Int}
theorem YR {α:Type}{xs:oj α}(h0:0<=i)(h1:i<xs.length):∃c,atI xs i=u_ c:=by
 obtain⟨n,rfl⟩:∃n:Nat,i=(n:Int):=[i.toNat:()]
 have hn:n<xs.length:=by omega
 exact[xs[n]:Qm (ug hn)]
noncomputable def clOf (cells:oj (Str×o3)):oj (Str×VJ)->oj (Str×o3)->oj (Str×o3)
 | [],cs=>cs
 |(n,k)::r,cs=>clOf cells r (if k== .free then(match cells.lookup n with|some a=>(n,a)::cs|none=>cs) else cs)
theorem KG {cells:oj (Str×o3)}:∀{names:oj (Str×VJ)}{cs:oj (Str×o3)},(∀y c,cs.lookup y=u_ c->cells.lookup y=u_ c)->∀y c,(clOf cells names cs).lookup y=u_ c->cells.lookup y=u_ c
 | [],_,h=>h
 |(n,k)::r,cs,h=>by
  unfold clOf;refine KG λy c e=> ?_;split at e
  ·split at e
   ·rename_i a ha
    rw [vi] at e;split at e
    ·rename_i U
     have O:y=n:=beq_iff_eq.mp U;subst O;cases e;exact ha
    ·exact h y c e
   ·exact h y c e
  ·exact h y c e
theorem clOf_keep {cells:oj (Str×o3)}:∀{names:oj (Str×VJ)}{cs:oj (Str×o3)}{y:Str},(∃c,cs.lookup y=u_ c)->∃c,(clOf cells names cs).lookup y=u_ c
 | [],_,_,h=>h
 |(n,k)::r,cs,y,h=>by
  unfold clOf;refine clOf_keep ?_;split
  ·split
   ·rw [vi];split
    ·exact⟨0⟩
    ·exact h
   ·exact h
  ·exact h
theorem kI {cells:oj (Str×o3)}:∀{names:oj (Str×VJ)}{cs:oj (Str×o3)}{y:Str},(y,Vs)∈names->(∃c,cells.lookup y=u_ c)->∃c,(clOf cells names cs).lookup y=u_ c
 | [],_,_,h,_=>nomatch h
 |(n,k)::r,cs,y,h,O=>by
  unfold clOf;rcases A8.mp h with e|h
  ·cases e;refine clOf_keep ?_;erw[O,c,O];rw [A5 (),O]
   exact⟨c,by simp [vi]⟩
  ·exact kI h O
theorem zi {env:Env}:∀{names:oj (Str×VJ)}{cs:oj (Str×o3)},(∀y,(y,Vs)∈names->∃c,env.cells.lookup y=u_ c)->
  (VN names cs λx r=>(do
   if x.2== .free then
    let a<-Hf env x.1
    pure (GC ((x.1,a)::r))
   else pure (GC r):Sem (ForInStep (oj (Str×o3)))))=(pure (clOf env.cells names cs):Sem (oj (Str×o3)))
 | [],cs,_=>rfl
 |(n,k)::r,cs,h=>by
  rw [Uw];have hr:∀y,(y,Vs)∈r->∃c,env.cells.lookup y=u_ c:=λy hy=>h y (ue _ hy);unfold clOf;by_cases O:(k==Vs)=v_
  ·have U:k= .free:=by simpa using O
   subst U;erw[h n uf,c,hc];have e:Hf env n=pure c:=by unfold Hf;rw [hc]
   simp only [O,V6,e,hc,To];exact zi hr
  ·simp only [A4 O,To];exact zi hr
theorem ko {scope:Vt}{env:Env}(h:∀y,(y,Vs)∈scope.names->∃c,env.cells.lookup y=u_ c):GX scope env=pure (clOf env.cells scope.names []):=by
 unfold GX;have q:=zi (cs:= []) h;show(VN scope.names ([]:oj (Str×o3)) (λx r=>(do
   if x.2== .free then
    let a<-Hf env x.1
    pure (GC ((x.1,a)::r))
   else pure (GC r):Sem (ForInStep (oj (Str×o3)))))>>=λcs=>pure cs)=_
 rw [q,To]
theorem Zk {env:Env}(hf:env.scope.kind= .function):∀{names:oj (Str×VJ)}{x:Str},names.lookup x=u_ .free->env.kindOf x=u_ .cell->
  (names.map λ(n,k)=>if(k==Vs&&env.scope.kind== .function&&env.kindOf n==u_ .cell) then(n,gP) else(n,k)).lookup x=u_ .cell
 | [],_,h,_=>by simp at h
 |(n,k)::r,x,h,hc=>by
  have ih:= @Zk env hf r x;show Vx x ((if(k==Vs&&env.scope.kind== .function&&env.kindOf n==u_ .cell)=v_ then(n,gP) else(n,k))::_)=_
  cases O:x==n with
  |true=>
   simp only [vi,O] at h;cases h;have aa:x=n:=beq_iff_eq.mp O;subst aa;rw [A5 (by rw [hf,hc];rfl)]
   simp [vi]
  |false=>
   simp only [vi,O] at h;by_cases U:(k==Vs&&env.scope.kind== .function&&env.kindOf n==u_ .cell)=v_
   ·rw [A5 U];simp only [vi,O];exact ih h hc
   ·rw [A4 U];simp only [vi,O];exact ih h hc
theorem wB {env:Env}:∀{names:oj (Str×VJ)}{x:Str},(∀y∈names,y.2≠ .cell)->
  ((names.map λ(n,k)=>if(k==Vs&&env.scope.kind== .function&&env.kindOf n==u_ .cell) then(n,gP) else(n,k)).lookup x=u_ .cell∨
   (names.map λ(n,k)=>if(k==Vs&&env.scope.kind== .function&&env.kindOf n==u_ .cell) then(n,gP) else(n,k)).lookup x=u_ .free)->(x,Vs)∈names
 | [],_,_,h=>by simp at h
 |(n,k)::r,x,hn,h=>by
  have ih:= @wB env r x (λy hy=>hn y (ue _ hy));have g:Vx x ((if(k==Vs&&env.scope.kind== .function&&env.kindOf n==u_ .cell)=v_ then(n,gP) else(n,k))::(r.map λ(n,k)=>if(k==Vs&&env.scope.kind== .function&&env.kindOf n==u_ .cell) then(n,gP) else(n,k)))=u_ .cell∨
   Vx x ((if(k==Vs&&env.scope.kind== .function&&env.kindOf n==u_ .cell)=v_ then(n,gP) else(n,k))::(r.map λ(n,k)=>if(k==Vs&&env.scope.kind== .function&&env.kindOf n==u_ .cell) then(n,gP) else(n,k)))=u_ .free:=h
  have aa:k≠ .cell:=hn (n,k) uf;by_cases hc:(k==Vs&&env.scope.kind== .function&&env.kindOf n==u_ .cell)=v_
  ·rw [A5 hc] at g;have hk:k= .free:=by
    rw [ur,ur] at hc
    simpa using hc.1.1
   subst hk;cases U:x==n with
   |true=>
    have O:x=n:=beq_iff_eq.mp U;subst O;exact uf
   |false=>
    simp only [vi,U] at g;exact ue _ (ih g)
  ·rw [A4 hc] at g;cases U:x==n with
   |true=>
    have O:x=n:=beq_iff_eq.mp U;subst O;simp only [vi,U] at g;rcases g with g|g
    ·exact absurd (uF g) aa
    ·rw [show k=Vs from uF g]
     exact uf
   |false=>
    simp only [vi,U] at g;exact ue _ (ih g)
noncomputable abbrev blk (X:Cx)(scope:Vt)(Nb:oj Str)(cl:oj (Str×o3))(C:o3)(s₀:o7)(H₀:Hp)(fp:oj o3)(pn:oj (o3×Obj)):Cx:=
 {X with N:=Nb,s₀:=s₀,H₀:=H₀,env:=tm scope cl C X.env,outer:=X.stack,ex:=fp,fn:=λ_=>V7,pn:=pn,xe:=λ_ _=>False}
structure LcS (X:Cx)(scope:Vt)(Nb:oj Str)(nt:Nat)(fr:oj Nat):Prop where
 kind:scope.kind= .function
 cell:∀y∈scope.names,y.2≠ .cell
 names:∀y∈scope.names,y.2= .local->scope.names.lookup y.1=u_ .local
 free:∀y∈scope.names,y.2= .free->X.env.kindOf y.1=u_ .cell
 len:Nb.length=nt+fr.length
 fr:∀(k j:Nat) (x:Str),fr[k]? =u_ j->Nb[nt+k]? =u_ x->X.N[j]? =u_ x/\scope.names.lookup x=u_ .free
noncomputable def sigB (nt:Nat)(fr:oj Nat)(σ:St):St:=FT nt U_++fr.map λj=>(σ[j]?).join
section
variable {pr:o9}{wo:og}{ar:oh}{RR:gX->o7->Prop}{st:o7}
noncomputable abbrev nb (pr:o9)(wo:og)(ar:oh)(en:Env)(RR:gX->o7->Prop):o6->o7->Prop:=notedBy (Vq pr wo) ar en λx t=>RR (.error x) t
noncomputable abbrev tsts (en:Env)(cs:oj Expr):Sem Bool:=VN cs v_ λc b=>if b=v_ then do let y<-isTrue c en (eval c en);pure (GC y) else pure (GC b)
theorem compLoop_by {el tg aa:Expr}{cs:oj Expr}{sc:Vt}{ps:Pos}{O U:o6}{en:Env}(J:Nat->o7->Prop)
  (ac:∀k t,J k t->V8 (Vq pr wo) ar (VY O) (λr t1=>match r with
   |none=>RR (.ok .next) t1
   |some v=>V8 (Vq pr wo) ar (HB tg O v) (λ_ t2=>V8 (Vq pr wo) ar (gO tg en v) (λ_ t3=>V8 (Vq pr wo) ar (tsts en cs) (λb t4=>
     if b=v_ then V8 (Vq pr wo) ar (eval el en) (λx t5=>V8 (Vq pr wo) ar (call (.builtin "list.append") [U,x]) (λ_ t6=>∃m,m<k/\J m t6) (nb pr wo ar en RR) t5) (nb pr wo ar en RR) t4
     else∃m,m<k/\J m t4) (nb pr wo ar en RR) t3) (nb pr wo ar en RR) t2) (nb pr wo ar en RR) t1) (nb pr wo ar en RR) t)
  (k:Nat) (h0:J k st):VD (Vq pr wo) ar (.compLoop (.ListComp el [⟨tg,aa,cs,(0)⟩] sc ps) 0 O U en) RR st:=by
 refine codeAny_loop rfl J (λk t hJ=> ?_) k h0;show V8 _ ar ((compTurn (.ListComp el [⟨tg,aa,cs,(0)⟩] sc ps) 0 O U en).onRaise λx=>do noteFrame x en;theTreesLotGoes x) _ _ t
 rw [compTurn_list];refine wpAny_noted (A6 (HC (A6 (thn (ac k t hJ) λr t1 q1=> ?_))));cases r with
 |none=>exact uw q1
 |some v=>
  refine A6 (thn q1 λ_ t2 q2=>A6 (thn q2 λ_ t3 q3=>A6 (thn q3 λb t4 q4=> ?_)));cases b with
  |false=>exact uw [1:q4]
  |true=>exact A6 (A6 (thn q4 λx t5 q5=>A6 (thn q5 λ_ t6 q6=>uw (uw [1:q6]))))
end
noncomputable def PIfs (X:Cx)(ifs:oj Expr)(t:TT):Prop:=
 ∀(oq:oj (o3×Obj)) (s:o7) (σ:St) (H:Hp) (Q:Bool->Hp->Prop),Inv X oq σ H s->t σ H Q->V8 #[X,X] X.A (tsts X.env ifs) (TP X oq σ Q) X.xe s
noncomputable def tYes:TT:=λ_ H Q=>Q v_ H
theorem yY {X:Cx}:PIfs X [] tYes:=λ_ _ _ H _ I h=>wpAny_tests_nil [H:I:h]
theorem kG {X:Cx}{c:Expr}{t:TT}(h:PT X c t):PIfs X [c] t:=λoq s σ H Q I O=>wpAny_tests_one (h oq s σ H Q I O)
noncomputable def lcGo (D:o3)(J:It)(g:TG)(tc:TT)(te:TE)(σb:St)(H1:Hp)(Q:VK):Prop:=
 ∃(n:Nat) (W:Nat->St->oj V->Hp->Prop),n<=Vb/\W 0 σb [] (upd H1 D (.lst []))/\
  (∀i σ ys H,i<n->W i σ ys H->H D=u_ (.lst ys)->ys.length<=i->J.go i H/\∀x H',J.yld i H x H'->g x σ H' λσ2 H2=>tc σ2 H2 λb H3=>
   if b=v_ then te σ2 H3 λy H4=>H4 D=u_ (.lst ys)/\W (i+1) σ2 (ys++ [y]) (upd H4 D (.lst (ys++ [y]))) else H3 D=u_ (.lst ys)/\W (i+1) σ2 ys H3)/\
  ∀σ ys H,W n σ ys H->H D=u_ (.lst ys)->J.stop n H/\Q (.ref D) H
noncomputable def tLC (nt:Nat)(fr:oj Nat)(wi:TI)(g:TG)(tc:TT)(te:TE):TE:=λσ H Q=>wi σ H λJ H1=>∀D,H1 D=U_->lcGo D J g tc te (sigB nt fr σ) H1 Q
section
variable {X:Cx}{scope:Vt}{Nb:oj Str}{nt:Nat}{fr:oj Nat}
theorem inv_blk {oq:oj (o3×Obj)}{σ:St}{H:Hp}{s:o7}{fp:oj o3}{C:o3}{h4:o8}{tk:Nat}(S:LcS X scope Nb nt fr)(I:Inv X oq σ H s)(hC:C=s.heap.objs.size)
  (ah:h4.Ns C λ_=>U_) (U:∀b o,s.heap.get? b=u_ o->h4.get? b=u_ o) (hf:∀b∈fp,FpOk X oq H b) (ho:∀b∈fp,∃o,s.heap.get? b=u_ o) (ht:0<tk:=by ac_rfl):
  Inv (blk X scope Nb (clOf X.env.cells scope.names []) C s H fp (X.pn++oq)) [] (sigB nt fr σ) H {s with heap:=h4,toks:=tk}:=by
 subst hC;have sub:∀y c,(clOf X.env.cells scope.names []).lookup y=u_ c->X.env.cells.lookup y=u_ c:=KG λy c e=>by simp at e
 have aa:∀y,(y,Vs)∈scope.names->X.env.kindOf y=u_ .cell:=λy hy=>S.free _ hy rfl;have ae:∀b o,s.heap.get? b=u_ o->b≠s.heap.objs.size:=λb o e z=>by rw [z] at e;exact absurd (uA e) (vK _)
 have O:∀b,b≠X.env.locals->b∉X.fs->b∉frs X.stack:=λb h1 h2 z=>(A8.mp (I.stkSub b z)).elim h1 h2;refine⟨⟨I.ok.mod,S.kind,I.ok.glob,I.ok.blt,uh _,λx y c h1 h2=>I.ok.inj x y c (sub x c h1) (sub y c h2),λx hx=> ?_,λx c z=>(by cases z),I.ok.hd,I.ok.frames,.inl rfl,λb hb=> ?_,I.bs,uI I.ok.bsz I.sz,λb o e hb=> ?_,λb hb=> ?_,I.stack,I.stkFree⟩,1,I.bare,Un.kept U,[_:ah:λi x v e1 e2 e3=> ?_],λx c e=> ?_,I.hok.fresh (uh _),λx c e=>I.freeC x c (sub x c e),λp hp=> ?_,I.hok.kept U,?_,ht⟩
 ·have hm:=wB (env:=X.env) S.cell hx;exact kI hm (I.ok.has x (.inl (aa x hm)))
 ·erw[ho b hb,o,e];exact[ae b o e:λx c e'=>(hf b hb).2.2.2.2.1 x c (sub x c e')]
 ·rcases(hf b hb).2.2.2.1 with z|z
  ·exact I.ok.noex b o e z
  ·exact absurd (Vm (uA e) (uI I.ok.bsz z)) (vK _)
 ·exact O b (hf b hb).2.1 (hf b hb).2.2.1
 ·
  have hi:nt<=i:=by
   rcases UZ i nt with z|z
   ·unfold sigB at e2;rw [UD (by simpa using z),FU] at e2
    split at e2<;>cases e2
   ·exact z
  obtain⟨k,rfl⟩:∃k,i=nt+k:=[i-nt:()]
  unfold sigB at e2;rw [UC (by simp)] at e2
  simp only [Fa,Nat.add_sub_cancel_left,uE] at e2;cases ej:fr[k]? with
  |none=>rw [ej] at e2;cases e2
  |some j=>
   rw [ej] at e2;have ac:(σ[j]?).join=u_ v:=uF e2;have af:σ[j]? =u_ (u_ v):=by
    cases q:σ[j]? with
    |none=>rw [q] at ac;cases ac
    |some z=>rw [q] at ac;exact congrArg u_ ac
   erw[S.fr k j x ej e1,n1,n2];have kx:X.env.kindOf x=u_ .cell:=aa x (vH n2);erw[I.loc,m,hn,hl];erw[hl j x v n1 af (.inr (.inl kx)),u,r,l];refine[u:r:.inr [.inl (Zk I.ok.kind n2 kx):?_]];rcases l with⟨z,_⟩|⟨_,c,ec,ad⟩
   ·rw [kx] at z;cases z
   ·erw[kI (cells:=X.env.cells) (cs:= []) (vH n2) [c:ec],c',ag];have:=sub x c' ag;rw [ec] at this;cases this;erw[ad,o,q,d];exact⟨c,ag,o,U c o q,d⟩
 ·erw[I.cell x c (sub x c e),v,o,q,d];exact⟨v,o,U c o q,d⟩
 ·have ak:p∈X.pn++oq:=by simpa using hp
  erw[I.pin p ak,e,n,ne,nf,d];exact⟨U _ _ e,n,ae _ _ e,O _ ne nf,d⟩
 ·show(sigB nt fr σ).length=Nb.length;unfold sigB;rw [S.len];simp
theorem lc_core {tg ac am:Expr}{ao:oj Expr}{wi:TI}{g:TG}{tc:TT}{te:TE}{pos:Pos}{R:o6->o3->gX->o7->Prop}{oq:oj (o3×Obj)}{s:o7}{σ:St}{H:Hp}{Q:VK}(S:LcS X scope Nb nt fr)(ap:X.calm=v_)(hi:PI X tg ac wi)
  (hg:∀cl C s₀ H₀ fp pn,PG (blk X scope Nb cl C s₀ H₀ fp pn) tg g) (hc:∀cl C s₀ H₀ fp pn,PIfs (blk X scope Nb cl C s₀ H₀ fp pn) ao tc) (he:∀cl C s₀ H₀ fp pn,PE (blk X scope Nb cl C s₀ H₀ fp pn) am te)
  (I:Inv X oq σ H s) (h:tLC nt fr wi g tc te σ H Q)
  (hR:∀(D C:o3) (H':Hp) (s1:o7) (m:Str->om o6),Inv X oq σ H' s1->s1.heap.Ns C m->FpOk X oq H' C->Q (.ref D) H'->R (.ref D) C (.ok .next) s1):
  V8 #[X,X] X.A (eval ac X.env) (λx s₁=>V8 #[X,X] X.A (Hy x) (λit s₂=>V8 #[X,X] X.A (Ht []) (λay s₃=>
   V8 #[X,X] X.A (Tn scope X.env.globals (clOf X.env.cells scope.names []) [] X.env.qual U_ .none (u_ X.env)) (λah s₄=>
    VD #[X,X] X.A (.compStart (.ListComp am [⟨tg,ac,ao,(0)⟩] scope pos) 0 it ay {ah with scope:=relabel scope X.env}) (R ay ah.locals) s₄) X.xe s₃) X.xe s₂) X.xe s₁) X.xe s:=by
 refine thn (hi oq s σ H _ I h) λv s1 h1=>thn h1 λaT s2 h2=> ?_;erw[h2,it,fp,tn,J,H2,e,I2,T,aq,f2,q2];subst e;have aA:H2 s2.heap.objs.size=none:=I2.hok.fresh (uh _);erw[q2 _ aA,n,W,hn,w0,step,fin];generalize hD:s2.heap.objs.size=D at*;refine vw ?_;rw [hD];have I3:Inv X oq σ (upd H2 D (.lst [])) {s2 with heap:=s2.heap.push {cls:= .type "list",data:= .seq ([]:oj o6).toArray}}:=by
  have:=I2.lnew (ys:= []) (its:= []) (t':=s2.toks) .nil (uN _);rwa [hD] at this
 refine wpAny_newFunctionEnv S.cell (by intro y hy;simp at hy) (λh4 ae au=> ?_) S.kind
 dsimp only at ae au⊢;generalize aB:s2.heap.push {cls:= .type "list",dict:=U_,data:= .seq ([]:oj o6).toArray}=h3 at ae au I3⊢;have hC:h3.objs.size=D+1:=by rw [<-aB,vt,hD]
 have af:∀b o,h3.get? b=u_ o->h4.get? b=u_ o:=λb o e=>au.extBut b o (uL (uA e)) (ud _ e);have aa:∀b o,s2.heap.get? b=u_ o->h3.get? b=u_ o:=λb o e=>by rw [<-aB];exact ud _ e
 have aw:∀b∈fp,∃o,s2.heap.get? b=u_ o:=λb O=>let⟨o,e,_⟩:=T.obj _ _ aq b O;[o:e];have aH:∀b∈fp,b≠D:=λb O z=>by
  erw[aw b O,o,e];have q:=uA e;rw [z,hD] at q;exact vK _ q
 have f3:∀b∈fp,FpOk X oq (upd H2 D (.lst [])) b:=λb O=>⟨by rw [qi (aH b O)];exact(f2 b O).1,(f2 b O).2⟩
 have IB:=inv_blk (C:=h3.objs.size) (h4:=h4) (tk:=s2.toks+([]:oj (Str×o6)).length) (fp:=fp) S I3 rfl ae af f3 λb O=>let⟨o,e⟩:=aw b O;[o:aa b o e];generalize U:blk X scope Nb (clOf X.env.cells scope.names []) h3.objs.size {s2 with heap:=h3} (upd H2 D (.lst [])) fp (X.pn++oq)=Xb at IB
 have gB:=hg (clOf X.env.cells scope.names []) h3.objs.size {s2 with heap:=h3} (upd H2 D (.lst [])) fp (X.pn++oq)
 have cB:=hc (clOf X.env.cells scope.names []) h3.objs.size {s2 with heap:=h3} (upd H2 D (.lst [])) fp (X.pn++oq)
 have eB:=he (clOf X.env.cells scope.names []) h3.objs.size {s2 with heap:=h3} (upd H2 D (.lst [])) fp (X.pn++oq)
 rw [U] at gB cB eB;have xP:Xb.prog=X.prog:=by rw [<-U]
 have xW:Xb.w=X.w:=by rw [<-U]
 have xK:Xb.K=X.K:=by rw [<-U]
 have xA:Xb.A=X.A:=by rw [<-U]
 have xC:Xb.calm=true:=by rwa [<-U]
 have xE:Xb.env=tm scope (clOf X.env.cells scope.names []) h3.objs.size X.env:=by rw [<-U]
 have xX:Xb.xe=λ_ _=>False:=by rw [<-U]
 have ag:∀{H':Hp},(∀b∈fp,H' b=U_)->∀b∈fp,FpOk Xb [] H' b:=λhn b O=>by
  erw[f2 b O,g1,g2,g3,g4,g5,g6];erw[aw b O,o,e];subst U;refine⟨hn b O,λz=> ?_,λz=>(A8.mp (I2.stkSub b z)).elim g2 g3,.inl O,λx c ec=>g5 x c (KG (λy c e=>by simp at e) x c ec),λp hp=>g6 p (by simpa using hp)⟩
  have ad:=uA (aa b o e);have z':b=h3.objs.size:=z;rw [z'] at ad;exact vK _ ad
 have ak:∀s5:o7,s5={s2 with heap:=h4,toks:=s2.toks+([]:oj (Str×o6)).length}->
   VD #[X,X] X.A (.compLoop (.ListComp am [⟨tg,ac,ao,(0)⟩] scope pos) 0 (.ref it) (.ref D) (tm scope (clOf X.env.cells scope.names []) h3.objs.size X.env))
    (R (.ref D) h3.objs.size) s5:=by
  rintro s5 rfl;refine compLoop_by (λk s'=>∃i σ' ys H',Inv Xb [] σ' H' s'/\tn i s'.heap/\(∀b∈fp,H' b=U_)/\H' D=u_ (.lst ys)/\i<=n/\k=n-i/\ys.length<=i/\W i σ' ys H') ?_ n
   ⟨(0),sigB nt fr σ,[],_,IB,T.keep _ _ _ aq λb O o e=>af b o (aa b o e),λb O=>(f3 b O).1,qh,uN _,1,uh _,w0⟩
  rintro k s' ⟨i,σ',ys,H',I',aC,aD,aE,aI,rfl,aJ,w'⟩;rcases UZ i n with ad|aK
  ·erw[step i σ' ys H' ad w' aE aJ,go,next];have ti:=T.item Xb xP xW xK xC i [] s' σ' H' (λ_ _=>False) I' (ag aD) aC go;rw [xA] at ti;refine vN ti (λr s1 h1=> ?_) λ_ _ z=>z.elim;erw[h1,u,rfl,h1];refine vN h1 (λ_ aF aL=> ?_) λ_ _ z=>z.elim;erw[aL,x,H5,I5,r5,y5,ax,aM];have aN:=I5.pinned (ag aM) (T.obj _ _ ax);have ga:=gB _ aF σ' H5 x u _ aN r5 (next x H5 y5);rw [xP,xW,xA,xE,xX] at ga;refine vN ga (λ_ s3 aO=> ?_) λ_ _ z=>z.elim;erw[aO,σ6,H6,I6,q6];have ca:=cB _ s3 σ6 H6 _ I6 q6;rw [xP,xW,xA,xE,xX] at ca;refine vN ca (λok s4 aP=> ?_) λ_ _ z=>z.elim;erw[aP,H7,I7,q7];have al:∀{σ8:St}{H8:Hp}{s8:o7},Inv Xb ([]++pinsAt fp aF.heap) σ8 H8 s8->Inv Xb [] σ8 H8 s8/\tn (i+1) s8.heap/\∀b∈fp,H8 b=none:=λ{σ8 H8 s8} I8=>by
    refine[I8.unpinned:T.keep _ _ _ ax λb O o e=>(I8.pin (b,o) (uJ _ (uJ _ (J7 O e)))).1:λb O=> ?_];erw[T.obj _ _ ax b O,o,e,d];exact(I8.pin (b,o) (uJ _ (uJ _ (J7 O e)))).2.1
   cases ok with
   |false=>
    rw [A4 u9] at q7⊢;erw[al I7,b1,b2,b3];exact⟨n-(i+1),(),i+1,σ6,ys,H7,b1,b2,b3,q7.1,ad,1,(),q7.2⟩
   |true=>
    rw [A5 rfl] at q7⊢;have ea:=eB _ s4 σ6 H7 _ I7 q7;rw [xP,xW,xA,xE,xX] at ea;refine vN ea (λy s5 h5=> ?_) λ_ _ z=>z.elim;erw[h5,yv,H8,I8,r8,aQ,q8];have ma:=Ya (X:=Xb) _ s5 σ6 H8 (.ref D) [yv] (.ref D) [y] (λ_ H9=>H9=upd H8 D (.lst (ys++ [yv]))) I8 rfl (.cons r8 .nil) ⟨D,ys,yv,1,1,aQ,(),1⟩
    rw [xP,xW,xA,xX] at ma;refine vN ma (λ_ s6 h6=> ?_) λ_ _ z=>z.elim;erw[h6,_,H9,I9,_,rfl];erw[al I9,b1,b2,b3];exact⟨n-(i+1),(),i+1,σ6,ys++ [yv],_,b1,b2,b3,qh,ad,1,by rw [uu,vo];omega,q8⟩
  ·have aG:i=n:=Nat.le_antisymm aI aK;subst aG;erw[fin σ' ys H' w' aE,stop,hq];have td:=T.done Xb xP xW xK xC i [] s' σ' H' (λ_ _=>False) I' (ag aD) aC stop;rw [xA] at td;refine vN td (λr s1 h1=> ?_) λ_ _ z=>z.elim;erw[h1,rfl,I6];erw[id I6.loc,m,hm,_];rw [xE] at hm;have aR:H' h3.objs.size=none:=by have:=I6.free;rwa [xE] at this
   have u6:Un (frs X.stack) fp (upd H2 D (.lst [])) H' h3 s1.heap:=by have:=I6.base;subst U;exact this
   have u2:Un (frs X.stack) fp H2 (upd H2 D (.lst [])) s2.heap h3:=Un.laid (λb o e=>aa b o e) (by rw [hD];exact uh _) aA
   have aS:s1.os=s2.os:=by have:=I6.os;subst U;exact this
   have hok:HOk X.prog X.w H' s1.heap:=by
    have:=I6.hok;subst U;exact this
   refine hR D h3.objs.size H' s1 m (I2.call' (s':=s1) (ch:=fp) aS (u2.trans u6) hok I6.bare λb O=> ?_) hm (I2.fpOk () aR) hq
   erw[f2 b O,g1,g2,g3,g4,g5,g6];exact⟨g4,g2,g5,g6⟩
 exact codeAny_compStart_list (ak _ rfl) (T.self _ 0 _ _ _ (T.keep _ _ _ aq λb O o e=>af b o (aa b o e)) (ak _ rfl))
theorem zI {tg O ac:Expr}{ad:oj Expr}{wi:TI}{g:TG}{tc:TT}{te:TE}{pos:Pos}(S:LcS X scope Nb nt fr)(U:X.calm=v_)(hi:PI X tg O wi)
  (hg:∀cl C s₀ H₀ fp pn,PG (blk X scope Nb cl C s₀ H₀ fp pn) tg g) (hc:∀cl C s₀ H₀ fp pn,PIfs (blk X scope Nb cl C s₀ H₀ fp pn) ad tc) (he:∀cl C s₀ H₀ fp pn,PE (blk X scope Nb cl C s₀ H₀ fp pn) ac te)
  (hs:∀x,tI O X.env x=pure x):PE X (.ListComp ac [⟨tg,O,ad,(0)⟩] scope pos) (tLC nt fr wi g tc te):=by
 intro oq s σ H Q I h;have aa:GX scope X.env=pure (clOf X.env.cells scope.names []):=ko λy hy=>I.ok.has y (.inl (S.free _ hy rfl));rw [eval_ListComp];refine Ft (use:=U_) rfl hs aa S.kind S.names ?_;refine lc_core (R:=λae C=>compPost #[X,X] X.A X.xe U_ (EP X oq σ Q) ae C) S U hi hg hc he I h λD C H' s1 m I1 hm fc q=> ?_;erw[fc,f0,f1,f2,f3,f4,f5];exact[m:hm:λh' af=>⟨.ref D,H',I1.turned (t':=s1.toks) (it:=C) (λb o hb e=>(af.2 b hb).trans e) f0 f1 f3 f4 f5,1,q⟩]
theorem ZB {i:Nat}{y:Str}{tg O U:Expr}{aa:oj Expr}{wi:TI}{g:TG}{tc:TT}{te:TE}{pos ac py:Pos}(hN:X.N.Nodup)(af:X.N[i]? =u_ y)(hy:Loc X.env.scope y)(S:LcS X scope Nb nt fr)(ad:X.calm=v_)(hi:PI X tg O wi)
  (hg:∀cl C s₀ H₀ fp pn,PG (blk X scope Nb cl C s₀ H₀ fp pn) tg g) (hc:∀cl C s₀ H₀ fp pn,PIfs (blk X scope Nb cl C s₀ H₀ fp pn) aa tc) (he:∀cl C s₀ H₀ fp pn,PE (blk X scope Nb cl C s₀ H₀ fp pn) U te)
  (hs:∀x,tI O X.env x=pure x) (ag:GU (.ListComp U [⟨tg,O,aa,(0)⟩] scope pos) (u_ (.Name y py)) ac.line X.env=pure v_)
  (hf:X.fn y=v_∨X.env.scope.names.lookup y=u_ .local):
  PS X (.Assign [.Name y py] (.ListComp U [⟨tg,O,aa,(0)⟩] scope pos) ac) (tAsg (tLC nt fr wi g tc te) (jI i)):=by
 intro oq s σ H D I h;have ae:GX scope X.env=pure (clOf X.env.cells scope.names []):=ko λy hy=>I.ok.has y (.inl (S.free _ hy rfl));rw [exec_Assign_Name_used _ _ _ _ ag];refine A6 (HC (A6 ?_));show V8 _ X.A (do let _<-comprehension (.ListComp U [⟨tg,O,aa,(0)⟩] scope pos) scope X.env _ (Ht []) V7 (eval O X.env) (u_ (gO (.Name y py) X.env))) _ _ s
 refine A6 (vN (Ft (use:=u_ (gO (.Name y py) X.env)) (Q:=λ_ s'=>SP X oq D .next s') rfl hs ae S.kind S.names ?_) (λ_ s' hq=>uw (uw hq)) λ_ _ e=>e);refine lc_core (R:=λah C=>compPost #[X,X] X.A X.xe (u_ (gO (.Name y py) X.env)) (λ_ s'=>SP X oq D .next s') ah C) S ad hi hg hc he I h λA C H' s1 m I1 hm fc q=> ?_;erw[fc,f0,f1,f2,f3,f4,f5];show V8 _ X.A (gO (.Name y py) X.env (.ref A)) _ _ s1;refine Rr (store_ok2 (v:= .ref A) I1 hN af hy (show RelV (.ref A) (.ref A) from rfl) (λs' I' zq=> ?_) hf);erw[zq,a,sb,ha]
 have ak:C≠a:=by
  rcases ha with rfl|ha
  ·exact f1
  ·exact λz=>f4 y a ha z.symm
 refine[m:hm.sameBut sb ak:λh' al=>⟨_,H',I'.turned (t':=s'.toks) (it:=C) (λb o hb e=>(al.2 b hb).trans e) f0 f1 f3 f4 f5,q⟩]
end
theorem lcs0 {X:Cx}{sc:Vt}{x:Str}(O:sc.kind= .function:=by rfl)(U:∀y∈sc.names,y.2≠ .cell:=by decide+kernel)(hn:∀y∈sc.names,y.2= .local->sc.names.lookup y.1=u_ .local:=by decide+kernel)
  (hf:∀y∈sc.names,y.2≠ .free:=by decide+kernel):LcS X sc [x] 1 []:=⟨O,U,hn,λy hy e=>absurd e (hf y hy),1,λk j x h=>by simp at h⟩
theorem lcsN {X:Cx}{sc:Vt}{Nb:oj Str}{nt:Nat}{fr:oj Nat}(O:Vt)(U:oj Str)(hX:X.env.scope=O:=by rfl)(hN:X.N=U:=by rfl)(hk:sc.kind= .function:=by rfl)(hc:∀y∈sc.names,y.2≠ .cell:=by decide+kernel)
  (hn:∀y∈sc.names,y.2= .local->sc.names.lookup y.1=u_ .local:=by decide+kernel) (hf:∀y∈sc.names,y.2= .free->O.names.lookup y.1=u_ .cell:=by decide+kernel) (hl:Nb.length=nt+fr.length:=by rfl)
  (hz:((fr.zip (Nb.drop nt)).all λp=>decide (U[p.1]? =u_ p.2)&&decide (sc.names.lookup p.2=u_ .free))=true:=by decide+kernel):LcS X sc Nb nt fr:=by
 subst hX hN;refine⟨hk,hc,hn,hf,hl,λk j x h1 h2=> ?_⟩;have hm:(fr.zip (Nb.drop nt))[k]? =u_ (j,x):=by
  rw [List.getElem?_zip_eq_some];exact⟨h1,by rwa [List.getElem?_drop]⟩
 have q:=List.all_eq_true.mp hz _ (uQ hm);rw [ur] at q;exact[um q.1:um q.2]
theorem lc_str {z:Str}{D:o3}{H1:Hp}{te:TE}{tl:St}{Q:VK}(f:Nat->V)(hz:z.length<=Vb)(hD:H1 D=U_)
  (O:∀(i c:Nat) H (R:VK),z.cps[i]? =u_ c->Same H1 H->R (f c) H->te (u_ (.str ⟨#[c]⟩)::tl) H R)
  (hQ:∀H',Same H1 H'->H' D=u_ (.lst (z.cps.toList.map f))->Q (.ref D) H'):lcGo D (Its z) (jI 0) tYes te (U_::tl) H1 Q:=by
 refine⟨z.cps.size,λi σ ys H=>(∃w,σ=w::tl)/\ys=(z.cps.toList.take i).map f/\Same H1 H,hz,[[U_:1]:1:qg hD _],?_,?_⟩
 ·rintro i σ ys H hi ⟨⟨w,rfl⟩,rfl,sm⟩ U hy;exists hi;rintro x H' ⟨rfl,c,hc,rfl⟩;dsimp only [jI,tYes,GB];rw [A5 rfl];refine O i c H' _ hc sm ⟨U,[u_ (.str ⟨#[c]⟩):1],?_,?_⟩
  ·rw [uY,show z.cps.toList[i]? =u_ c by simpa using hc]
   simp
  ·intro b o e;rw [qi (qk e hD)];exact sm b o e
 ·rintro σ ys H ⟨_,rfl,sm⟩ U;refine[1:hQ H sm ?_];rw [U,vc (by simp)]
mutual
noncomputable def Is (H:Hp):D->V->Prop
 | .non,v=>v= .non
 | .bl b,v=>v= .bl b
 | .int i,v=>v= .int i
 | .str z,v=>v= .str z/\z.length<=Vb
 | .lst,v=>∃a xs,v= .ref a/\H a=u_ (.lst xs)
 | .dct,v=>∃a kvs,v= .ref a/\H a=u_ (.dK kvs)
 | .tup xs,v=>∃a vs,v= .ref a/\H a=u_ (.tup vs)/\IsL H xs vs
noncomputable def IsL (H:Hp):oj D->oj V->Prop
 | [],vs=>vs= []
 |x::xs,vs=>∃v r,vs=v::r/\Is H x v/\IsL H xs r
end
structure Tk (H H':Hp):Prop where
 tup:∀b xs,H b=u_ (.tup xs)->H' b=u_ (.tup xs)
 lst:∀b xs,H b=u_ (.lst xs)->∃ys,H' b=u_ (.lst ys)
 dct:∀b xs,H b=u_ (.dK xs)->∃ys,H' b=u_ (.dK ys)
theorem Same.tk (s:Same H H'):Tk H H':=[λb xs e=>s b _ e:λb xs e=>[xs:s b _ e]:λb xs e=>[xs:s b _ e]]
theorem Tk.refl (H:Hp):Tk H H:=(Same.refl H).tk
theorem Tk.trans (a:Tk H H1)(b:Tk H1 H2):Tk H H2:=⟨λc xs e=>b.tup c xs (a.tup c xs e),λc xs e=>let⟨ys,e1⟩:=a.lst c xs e;b.lst c ys e1,λc xs e=>let⟨ys,e1⟩:=a.dct c xs e;b.dct c ys e1⟩
variable {xs ys:oj V}
theorem Kept.tk (k:Kept p H H')(h:H p=u_ (.lst xs))(h':H' p=u_ (.lst ys)):Tk H H':=by
 refine[λb zs e=>k b _ e λz=> ?_:λb zs e=> ?_:λb zs e=>[zs:k b _ e λz=> ?_]]
 ·rw [z,h] at e;cases e
 ·by_cases z:b=p
  ·exact[ys:z▸h']
  ·exact[zs:k b _ e z]
 ·rw [z,h] at e;cases e
mutual
theorem Is.mono {H H':Hp}(t:Tk H H'):∀{d:D}{v:V},Is H d v->Is H' d v
 | .non,_,h=>h
 | .bl _,_,h=>h
 | .int _,_,h=>h
 | .str _,_,h=>h
 | .lst,_,h=>by
  erw[h,a,vs,e,ha];erw[t.lst a vs ha,ys,q];exact⟨a,ys,e,q⟩
 | .dct,_,h=>by
  erw[h,a,vs,e,ha];erw[t.dct a vs ha,ys,q];exact⟨a,ys,e,q⟩
 | .tup xs,_,h=>by
  erw[h,a,vs,e,ha,O];exact⟨a,vs,e,t.tup a vs ha,IsL.mono t O⟩
theorem IsL.mono {H H':Hp}(t:Tk H H'):∀{ds:oj D}{vs:oj V},IsL H ds vs->IsL H' ds vs
 | [],_,h=>h
 |_::_,_,h=>by
  erw[h,v,r,e,h1,h2];exact⟨v,r,e,Is.mono t h1,IsL.mono t h2⟩
end
theorem IsL.length {H:Hp}:∀{ds:oj D}{vs:oj V},IsL H ds vs->vs.length=ds.length
 | [],_,h=>by cases(show _= [] from h);rfl
 |_::_,_,h=>by
  erw[h,v,r,rfl,_,h2];rw [ui,ui,IsL.length h2]
theorem IsL.get {H:Hp}:∀{ds:oj D}{vs:oj V}{i:Nat}{d:D},IsL H ds vs->ds[i]? =u_ d->∃v,vs[i]? =u_ v/\Is H d v
 | [],_,_,_,_,e=>by simp at e
 |x::_,_,0,d,h,e=>by
  erw[h,v,r,rfl,h1,_];have:x=d:=by simpa using e
  exact[v:1:this▸h1]
 |_::_,_,i+1,d,h,e=>by
  erw[h,v,r,rfl,_,h2];obtain⟨u,O,U⟩:=IsL.get (i:=i) (d:=d) h2 (by simpa using e)
  exact⟨u,by simpa using O,U⟩
theorem IsL.append {H:Hp}:∀{ds es:oj D}{vs us:oj V},IsL H ds vs->IsL H es us->IsL H (ds++es) (vs++us)
 | [],_,_,_,h,k=>by cases(show _= [] from h);exact k
 |_::_,_,_,_,h,k=>by
  erw[h,v,r,rfl,h1,h2];exact⟨v,0,h1,IsL.append h2 k⟩
variable {v:V}
theorem IsL.one {d:D}(h:Is H d v):IsL H [d] [v]:=⟨v,[],1,h,1⟩
variable {ds:oj D}
theorem Is.new {vs:oj V}(h:IsL H ds vs)(O:H p=U_):Is (upd H p (.tup vs)) (.tup ds) (.ref p):=
 ⟨p,vs,1,qh,h.mono (qg O _).tk⟩
noncomputable def tyD:D->o6
 | .non=> .type "NoneType"
 | .bl _=> .type "bool"
 | .int _=> .type "int"
 | .str _=> .type "str"
 | .lst=> .type "list"
 | .dct=> .type "dict"
 | .tup _=> .type "tuple"
theorem Is.ty {d:D}(h:Is H d v):TyOf K H v (tyD d):=by
 cases d with
 |non=>cases(show v= .non from h);exact .non
 |bl b=>cases(show v= .bl b from h);exact .bl b
 |int i=>cases(show v= .int i from h);exact .int i
 |str z=>
  erw[h,rfl,_];exact .str z
 |lst=>
  erw[h,a,vs,rfl,ha];exact .lst ha
 |dct=>
  erw[h,a,vs,rfl,ha];exact .dK ha
 |tup xs=>
  erw[h,a,vs,rfl,ha,_];exact .tup ha
section
variable {X:Cx}
theorem op_gt_str:OpR X (Vl .Gt) (λx y H Q=>∃i j,x= .str i/\y= .str j/\Q (.bl (decide (j.cps.toList<i.cps.toList))) H):=by
 intro oq s σ H x y v u Q I O U h;erw[h,i,j,rfl,rfl,q];erw[O,t,rfl];erw[U,t',rfl];exact PySem.P.gt_str (Qh I q rfl)
theorem call_sumL (hc:X.calm=v_):Ye X (.builtin "sum") (λxs H Q=>∃(p:o3) (ns:oj Int),xs= [.ref p]/\SqL X.K H p (ns.map V.int)/\Q (.int ns.sum) H):=by
 intro oq s σ H xs us Q I r h;erw[h,p,ns,rfl,hp,q];erw[jH r,u,rfl,ru];cases ru;erw[I.list hp,its,rv,pl,hz];have hi:Gf its ns:=intsAre_of rv;erw[hi.allInts.items,ys,U];have O:s.heap.IsList p (intItems ys):=U▸pl.isList;refine uS (n:=1) I.tk (sum_intListG (I.ok.hd hc) O λh' tk t' hk=> ?_);intro htk;have e1:ns=ys.toList.map (·.1):=by
  have q1:=hi.numsOf;rw [<-nums_intItems,<-U];exact(show numsOf its.toArray.toList=ns from q1).symm
 have e2:preSum (numAt ys) ys.size=ns.sum:=by
  rw [preSum_eq,vc (by simp),e1]
 rw [e2];exact⟨.int ns.sum,H,I.kept hk,[t':1],q⟩
inductive rCatG (K:PySem.W.Frag) (x:V) (y:V) (H:Hp) (Q:VK):Prop
 |mk (a:_) (b:_) (xs:_) (ys:_) (_:x= .ref a) (_:y= .ref b) (_:SqT K H a xs) (_:SqT K H b ys) (_:xs.length+ys.length<=Vb) (_:(xs= []->Q (.ref b) H)) (_:(xs≠ []->ys= []->Q (.ref a) H)) (_:(xs≠ []->ys≠ []->∀p,H p=U_->Q (.ref p) (upd H p (.tup (xs++ys)))))
theorem Xl:OpR X (VH .Add) (rCatG X.K):=by
 intro oq s σ H x y v u Q I U ry h;erw[h,a,b,xs,ys,rfl,rfl,ha,hb,hz,q0,q1,q2];by_cases O:xs= []
 ·cases U;cases ry;erw[I.tuple ha,its,r1,p1,_];erw[I.tuple hb,aa,r2,p2,_];subst O;cases r1;erw[id p1,[c1,d1,t1,l1],o1,e1,n1,f1];erw[id p2,[c2,d2,t2,l2],o2,e2,n2,f2];simp only at e1 f1 e2 f2;subst e1 f1 e2 f2;exact tD p1.typeIs p2.typeIs HL Te PySem.F.slot_tuple_add UP (UI _ _) (tuple_addW0 a b _ _ n1 n2 d1 d2 l1 l2 rfl) [o1:o2:⟨.ref b,H,I,1,q0 rfl⟩]
 ·exact op_catT oq s σ H (.ref a) (.ref b) v u Q I U ry ⟨a,b,xs,ys,1,1,ha,hb,O,hz,q1 O,q2 O⟩
end
theorem Tk.updL (h:H p=u_ (.lst xs)):Tk H (upd H p (.lst ys)):=by
 refine[λb zs e=> ?_:λb zs e=> ?_:λb zs e=>[zs:?_]]
 ·rw [qi (λz=>by rw [z,h] at e;cases e)];exact e
 ·by_cases z:b=p
  ·exact⟨ys,by rw [z];exact qh⟩
  ·exact⟨zs,by rwa [qi z]⟩
 ·rw [qi (λz=>by rw [z,h] at e;cases e)];exact e
theorem lc_data {J:It}{A:o3}{H1:Hp}{te:TE}{tl:St}{Q:VK}{ds:oj D}(f:D->D)(hn:ds.length<=Vb)(hA:H1 A=U_)
  (aa:∀i H,Same H1 H->i<ds.length->J.go i H) (hy:∀i H x H' d,Same H1 H->ds[i]? =u_ d->J.yld i H x H'->H'=H/\Is H d x) (U:∀H,Same H1 H->J.stop ds.length H)
  (ac:∀d x H (R:VK),d∈ds->Same H1 H->Is H d x->(∀y H',Same H H'->Is H' (f d) y->R y H')->te (u_ x::tl) H R)
  (hQ:∀H' ys,Same H1 H'->H' A=u_ (.lst ys)->IsL H' (ds.map f) ys->Q (.ref A) H'):lcGo A J (jI 0) tYes te (U_::tl) H1 Q:=by
 refine⟨ds.length,λi σ ys H=>(∃w,σ=w::tl)/\IsL H ((ds.take i).map f) ys/\Same H1 H,hn,[[U_:1]:1:qg hA _],?_,?_⟩
 ·rintro i σ ys H hi ⟨⟨w,rfl⟩,hl,sm⟩ O ae;refine[aa i H sm hi:λx H' y=> ?_];erw[hy i H x H' ds[i] sm (ug hi) y,rfl,hx];dsimp only [jI,tYes,GB];rw [A5 rfl];refine ac ds[i] x H' _ (v9 hi) sm hx λy' H4 s4 ad=>⟨s4 _ _ O,[u_ x:1],?_,λb o e=> ?_⟩
  ·have t:Tk H4 (upd H4 A (.lst (ys++ [y']))):=Tk.updL (s4 _ _ O);have e:(ds.take (i+1)).map f=(ds.take i).map f++ [f ds[i]]:=by
    rw [uY,ug hi,Vc]
    rfl
   rw [e];exact((hl.mono s4.tk).mono t).append (IsL.one (ad.mono t))
  ·rw [qi (qk e hA)];exact s4 b o (sm b o e)
 ·rintro σ ys H ⟨_,hl,sm⟩ O;refine[U H sm:hQ H ys sm O ?_];rwa [vc (uh _)] at hl
theorem lc_tupS {K:o0}{a A:o3}{H1:Hp}{te:TE}{tl:St}{Q:VK}{ds:oj D}{vs:oj V}(f:D->D)(ha:H1 a=u_ (.tup vs))(U:IsL H1 ds vs)(hn:ds.length<=Vb)(hA:H1 A=U_)
  (O:∀d x H (R:VK),d∈ds->Same H1 H->Is H d x->(∀y H',Same H H'->Is H' (f d) y->R y H')->te (u_ x::tl) H R)
  (hQ:∀H' ys,Same H1 H'->H' A=u_ (.lst ys)->IsL H' (ds.map f) ys->Q (.ref A) H'):lcGo A (Itt K a) (jI 0) tYes te (U_::tl) H1 Q:=by
 have ln:=U.length;refine lc_data f hn hA (λi H sm hi=>⟨vs,vs[i]'(),SqT.of (sm _ _ ha),ug _⟩) (λi H x H' d sm hd y=> ?_) (λH sm=>[vs:SqT.of (sm _ _ ha):()]) O hQ
 erw[y,rfl,y];erw[U.get hd,v,e1,e2];have e3:=y vs (SqT.of (sm _ _ ha));rw [e1] at e3;cases e3;exact[1:e2.mono sm.tk]
theorem IsL.bls {H:Hp}:∀{bs:oj Bool}{vs:oj V},IsL H (bs.map D.bl) vs->vs=bs.map V.bl
 | [],_,h=>h
 |_::_,_,h=>by
  erw[h,v,r,rfl,h1,h2];rw [IsL.bls h2,show v=_ from h1];rfl
variable {Q:VK}
theorem xz {d:D}(h:Is H (.tup ds) v)(hi:atI ds i=u_ d)(q:∀x,Is H d x->Q x H):rIxT K v (.int i) H Q:=by
 erw[h,a,vs,rfl,ha,O];erw[KA hi,j,h1,h2,h3,h4,h5];erw[O.get h2,x,e1,e2];refine⟨a,vs,i,x,1,1,SqT.of ha,?_,q x e2⟩;have ln:=O.length;unfold atI at hi⊢;rw [ln];cases e:ixN ds.length i with
 |none=>rw [e] at hi;cases hi
 |some k=>
  rw [e] at hi;erw[ixN_seq e,U,_];rw [h1] at U;cases U;exact e1
noncomputable def inS (i j:Str):Bool:= !(GR j i 0 j.length 1).isEmpty
theorem inS_one (j:Str)(c:Nat):inS ⟨#[c]⟩ j=decide (c∈j.cps.toList):=StrLaws.found_one j c
theorem for_str {z:Str}{g:TG}{tb:TS}{E:Ends}{σ:St}{H:Hp}(O:Nat->St->Hp->Prop)(h0:O 0 σ H)
  (hs:∀(i c:Nat) σ H,z.cps[i]? =u_ c->O i σ H->g (.str ⟨#[c]⟩) σ H λσ2 H2=>tb {E with nx:=O (i+1),ct:=O (i+1),bk:=E.nx} σ2 H2) (hd:∀σ H,O z.cps.size σ H->E.nx σ H):
  ∃W:Nat->Nat->St->Hp->Prop,(∃m,W 0 m σ H)/\∀i m σ H,W i m σ H->
   ((Its z).stop i H/\E.nx σ H)∨((Its z).go i H/\∃N:St->Hp->Prop,(∀σ' H',N σ' H'->∃m',m'<m/\W (i+1) m' σ' H')/\∀x H',(Its z).yld i H x H'->g x σ H' λσ2 H2=>tb {E with nx:=N,ct:=N,bk:=E.nx} σ2 H2):=by
 exists λi m σ H=>m=z.cps.size-i/\i<=z.cps.size/\O i σ H,⟨z.cps.size,by simp,uN _,h0⟩
 rintro i m σ H ⟨rfl,hi,p⟩;by_cases U:i<z.cps.size
 ·refine .inr ⟨U,O (i+1),λσ' H' p'=>⟨z.cps.size-(i+1),(),1,U,p'⟩,λx H' y=> ?_⟩
  erw[y,rfl,c,hc,rfl];exact hs i c σ _ hc p
 ·have e:i=z.cps.size:=by omega
  exact .inl [e:hd σ H (e▸p)]
theorem IsL.unsnoc {H:Hp}:∀{ds:oj D}{d:D}{vs:oj V},IsL H (ds++ [d]) vs->∃us x,vs=us++ [x]/\IsL H ds us/\Is H d x
 | [],d,_,h=>by
  erw[h,v,r,rfl,h1,h2];cases(show r= [] from h2)
  exact⟨[],v,1,1,h1⟩
 |e::r,d,_,h=>by
  erw[h,v,q,rfl,h1,h2];erw[IsL.unsnoc h2,us,x,rfl,h3,h4];exact⟨v::us,x,1,⟨v,us,1,h1,h3⟩,h4⟩
noncomputable def isStr:D->Bool
 | .str _=>v_
 |_=>V7
noncomputable def XH:D->Bool
 | .tup _=>v_
 |_=>V7
section
variable {K:o0}
theorem kit_no {T U:String}{b:Bool}(h:(G6 T==G6 U)=V7)(hm:PySem.W.kitMeta U=v_)(O:(fastBuiltinMro T).map (·.contains (G6 U))=u_ b):PySem.W.kitOne K (.type T) (.type U)=u_ b:=by
 unfold PySem.W.kitOne;rw [A4 (by rw [h];exact u9)]
 show(if PySem.W.kitMeta U=v_ then PySem.W.subIn K (.type T) (.type U) else U_)=u_ b
 rw [A5 hm];exact O
theorem kit_self {T:String}(h:(G6 T==G6 T)=v_):PySem.W.kitOne K (.type T) (.type T)=u_ true:=by
 unfold PySem.W.kitOne;rw [A5 h]
theorem jD (d:D):PySem.W.kitOne K (tyD d) (.type "str")=u_ (isStr d):=by
 cases d with
 |str z=>exact kit_self ()
 |_=>exact kit_no (b:=V7) () () ()
theorem JK (d:D):PySem.W.kitOne K (tyD d) (.type "tuple")=u_ (XH d):=by
 cases d with
 |tup z=>exact kit_self ()
 |_=>exact kit_no (b:=V7) () () ()
end
theorem lt_one (c k:Nat):decide ((⟨#[c]⟩:Str).cps.toList< [k])=decide (c<k):=by
 rw [uZ];simp [RD]
theorem one_gt (c k:Nat):decide ([k]<(⟨#[c]⟩:Str).cps.toList)=decide (k<c):=by
 rw [uZ];simp [RD]
theorem kW {X:Cx}{K:o0}(h:X.K=K):IxR X (rIxT K):=by subst h;exact qF
theorem ix_listK {X:Cx}{K:o0}(h:X.K=K):IxR X (rIxL K):=by subst h;exact yK
inductive IiTupB (K:PySem.W.Frag) (R:(It->Hp->Prop)) (x:V) (H1:Hp):Prop
 |mk (a:_) (xs:_) (_:x= .ref a) (_:SqT K H1 a xs) (_:(xs.length<=Vb->R (Itt K a) H1))
noncomputable def iTupB (K:o0)(tl:TE):TI:=λσ H R=>tl σ H λx H1=>IiTupB K R x H1
theorem ZN {X:Cx}{tg l:Expr}{tl:TE}(U:PE X l tl):PI X tg l (iTupB X.K tl):=by
 intro oq s σ H R I h;refine thn (U oq s σ H _ I h) λv s1 zq=> ?_;erw[zq,x,H1,O,r1,q1];erw[q1,a,xs,e,hq,q];subst e;cases r1;erw[O.tuple hq,its,rv,p,hz];refine tZ (show s1.heap.IsTuple a its.toArray from p) ?_
 refine⟨s1.heap.objs.size,[s1.heap.objs.size],_,_,H1,1,O.kept (t':=s1.toks) λb o e=>ud _ e,kh a _,⟨_,uC _ rfl,1,1⟩,λb hb=> ?_,q hz⟩;have e:b=s1.heap.objs.size:=by simpa using hb
 subst e;exact O.fpOk (uh _) (O.hok.fresh (uh _))
variable {X:Cx}
theorem call_lenB:Ye X (.builtin "len") (λxs H Q=>∃p ys,xs= [.ref p]/\(SqL X.K H p ys∨SqT X.K H p ys)/\(ys.length<=Vb->Q (.int ys.length) H)):=by
 intro oq s σ H xs us Q I r h;erw[h,p,ys,e,O,q];have U:ys.length<=sizeLine:=by
  rcases O with O|O
  ·exact(I.list O).choose_spec.2.2
  ·exact(I.tuple O).choose_spec.2.2
 exact qM oq s σ H xs us Q I r ⟨p,ys,e,O,q U⟩
variable {n:Nat}
theorem cutV_drop (h:n<=xs.length):cutV xs (u_ (n:Int)) U_=xs.drop n:=by
 unfold cutV;rw [HT.sIx_none,HT.sIx_nat,TF h];exact vc (by rw [vY];exact uh _)
end L2
namespace L2
open PySem PySem.Spec PyProof.Rows Builtin Builtin.Str
noncomputable def posL (c:Nat):oj Nat->Nat->oj Nat
 | [],_=> []
 |a::r,i=>if a=c then i::posL c r (i+1) else posL c r (i+1)
noncomputable def cutL (c:Nat):Nat->oj Nat->oj (oj Nat)
 |0,L=> [L]
 |_+1,[]=> [[]]
 |n+1,a::r=>if a=c then []::cutL c n r else match cutL c (n+1) r with
  |p::q=>(a::p)::q
  | []=> [[a]]
noncomputable def ofL (l:oj Nat):Str:=⟨l.toArray⟩
theorem Q7 (z:Str):ofL z.cps.toList=z:=by
 unfold ofL;simp
theorem JA (c:Nat):∀(n:Nat) (L:oj Nat),∃p q,cutL c n L=p::q
 |0,L=>⟨L,[],by simp [cutL]⟩
 |n+1,[]=>⟨[],[],by simp [cutL]⟩
 |n+1,a::r=>by
  by_cases h:a=c
  ·exact⟨[],cutL c n r,by simp [cutL,h]⟩
  ·erw[JA c (n+1) r,p,q,e];exact⟨a::p,q,by simp [cutL,h,e]⟩
theorem cutL_app {c:Nat}{n:Nat}{r:oj Nat}:∀{p:oj Nat},c∉p->cutL c (n+1) (p++c::r)=p::cutL c n r
 | [],_=>by simp [cutL]
 |a::p,h=>by
  have h1:a≠c:=λe=>h (by simp [e])
  have O:=cutL_app (n:=n) (r:=r) (p:=p) (λz=>h (ue _ z));show cutL c (n+1) (a::(p++c::r))=_;rw [cutL,A4 h1,O]
theorem wP {c:Nat}{n:Nat}:∀{p:oj Nat},c∉p->cutL c n p= [p]
 | [],_=>by cases n<;>simp [cutL]
 |a::p,h=>by
  have h1:a≠c:=λe=>h (by simp [e])
  cases n with
  |zero=>simp [cutL]
  |succ n=>
   have O:=wP (n:=n+1) (p:=p) (λz=>h (ue _ z));rw [cutL,A4 h1,O]
theorem subAt_sign (x:Str)(c i:Nat)(h:i<x.length):subAt x ⟨#[c]⟩ i=decide (x.cps.toList[i]? =u_ c):=by
 rw [Fs];have O:i<x.cps.toList.length:=by simpa [VV] using h
 have U:(x.cps.toList.drop i).take 1= [x.cps.toList[i]]:=by
  rw [vk O]
  rfl
 show((x.cps.toList.drop i).take 1== [c])=_;rw [U,ug O];generalize x.cps.toList[i]=k;by_cases e:k=c
 ·simp [e]
 ·simp [e]
theorem occ_go (x:Str)(c n:Nat):∀(m k:Nat) (found:Array Nat) (free:Nat),k+m=x.length+1->free<=k->
  (VN (Gx k m) (found,free) (gY x ⟨#[c]⟩ x.length n)).run.fst.toList=found.toList++(posL c (x.cps.toList.drop k) k).take (n-found.size)
 |0,k,found,free,hk,_=>by
  have hl:x.cps.toList.length<=k:=by simp [VV] at hk⊢;omega
  rw [Um hl];simp [posL]
 |m+1,k,found,free,hk,hf=>by
  rw [List.range'_succ,Uw];unfold gY;have ad:x.cps.toList.length=x.length:=by simp [VV]
  by_cases aa:k<x.length
  ·have ac:k<x.cps.toList.length:=by omega
   rw [vk ac];have hs:=subAt_sign x c k aa;rw [ug ac] at hs;by_cases e:x.cps.toList[k]=c
   ·have O:subAt x ⟨#[c]⟩ k=true:=by rw [hs,e];simp
    by_cases hn:found.size<n
    ·rw [A5 ⟨⟨[hn:hf],by show k+1<=x.length;omega⟩,O⟩]
     have U:=occ_go x c n m (k+1) (found.push k) (k+1) () (uh _)
     show(VN (Gx (k+1) m) (found.push k,k+1) (gY x ⟨#[c]⟩ x.length n)).run.fst.toList=_;rw [U];rw [posL,A5 e,Array.toList_push,Fw];obtain⟨j,hj⟩:∃j,n-found.size=j+1:=[n-found.size-1:()]
     rw [hj,UG,show n-(found.size+1)=j by omega]
     simp
    ·rw [A4 (λz=>hn z.1.1.1)];have U:=occ_go x c n m (k+1) found free () ()
     show(VN (Gx (k+1) m) (found,free) (gY x ⟨#[c]⟩ x.length n)).run.fst.toList=_;rw [U,show n-found.size=0 by omega]
     simp
   ·have O:¬subAt x ⟨#[c]⟩ k=true:=by rw [hs];intro z;exact e (uF (um z))
    rw [A4 (λz=>O z.2)];have U:=occ_go x c n m (k+1) found free () ()
    show(VN (Gx (k+1) m) (found,free) (gY x ⟨#[c]⟩ x.length n)).run.fst.toList=_;rw [U,posL,A4 e]
  ·rw [A4 (λz=>aa (by have:=z.1.2;show k<x.length;have h1:k+1<=x.length:=this;omega))]
   have U:=occ_go x c n m (k+1) found free () ()
   show(VN (Gx (k+1) m) (found,free) (gY x ⟨#[c]⟩ x.length n)).run.fst.toList=_;rw [U];have h1:x.cps.toList.length<=k:=by omega
   rw [Um h1,Um ()]
   simp [posL]
theorem Kv (x:Str)(c n:Nat):occurrences x ⟨#[c]⟩ 0 x.length n=(posL c x.cps.toList 0).take n:=by
 rw [rE];have:=occ_go x c n (x.length+1) 0 #[] 0 () (uh _)
 simpa using this
noncomputable def att (p:oj Nat):oj (oj Nat)->oj (oj Nat)
 |q::r=>(p++q)::r
 | []=> [p]
theorem parts_go (x:Str)(c:Nat):∀(m n a b:Nat),a<=b->b+m=x.length->
  HG x 1 a ((posL c (x.cps.toList.drop b) b).take n)=(att ((x.cps.toList.drop a).take (b-a)) (cutL c n (x.cps.toList.drop b))).map ofL:=by
 have ac:x.cps.toList.length=x.length:=by simp [VV]
 have O:∀i j,strSub x i j=ofL ((x.cps.toList.drop i).take (j-i)):=λi j=>by
  rw [<-Q7 (strSub x i j),Fd]
 intro m
 induction m with
 |zero=>
  intro n a b aa hb;have h1:x.cps.toList.drop b= []:=Um ()
  rw [h1];have e1:cutL c n []= [[]]:=by cases n<;>simp [cutL]
  rw [e1];simp only [posL,HQ,HG,att,uW,uq,U0];rw [O,show x.length-a=b-a by omega]
 |succ m ih=>
  intro n a b aa hb;have U:b<x.cps.toList.length:=by omega
  rw [vk U];cases n with
  |zero=>
   simp only [tJ,HG,cutL,att,uq,U0];rw [O,<-vk U];have e2:(x.cps.toList.drop a).take (x.length-a)=x.cps.toList.drop a:=vc (by rw [vY];omega)
   have e3:x.cps.toList.drop b=(x.cps.toList.drop a).drop (b-a):=by rw [List.drop_drop];congr 1;omega
   rw [e2,e3,Re]
  |succ n=>
   by_cases e:x.cps.toList[b]=c
   ·rw [posL,A5 e,UG,HG,cutL,A5 e];rw [ih n (b+1) (b+1) (uh _) ()]
    erw[JA c n (x.cps.toList.drop (b+1)),p,q,e2];rw [e2,O];simp [att]
   ·rw [posL,A4 e,ih (n+1) a (b+1) () (),cutL,A4 e]
    erw[JA c (n+1) (x.cps.toList.drop (b+1)),p,q,e2];rw [e2];simp only [att,uq]
    congr 2
    have e3:b+1-a=(b-a)+1:=by omega
    have hx:b-a<(x.cps.toList.drop a).length:=by rw [vY];omega
    rw [e3,List.take_succ_eq_append_getElem hx];simp [show a+(b-a)=b by omega]
theorem parts_cut (x:Str)(c n:Nat):partsBetween x (occurrences x ⟨#[c]⟩ 0 x.length n) 1=(cutL c n x.cps.toList).map ofL:=by
 rw [StrLaws.partsBetween_eq,Kv];have:=parts_go x c x.length n 0 0 (uh _) ()
 rw [Hi] at this;rw [this];erw[JA c n x.cps.toList,p,q,e];rw [e];simp [att]
theorem ZC {c:Nat}:∀{L:oj Nat}{i:Nat},posL c L i= []->c∉L
 | [],_,_=>by simp
 |a::r,i,h=>by
  by_cases e:a=c
  ·simp [posL,e] at h
  ·rw [posL,A4 e] at h;have:=ZC h;simp [Uv e,this]
theorem X1:∀(l:oj Str) (k:Nat),Vals (l.map V.str) (strsFrom k l)
 | [],_=> .nil
 |x::r,k=> .cons [k:1] (X1 r (k+1))
theorem wk:∀{l:oj Str}{us:oj o6},Vals (l.map V.str) us->∃ps:oj (Str×Tok),us=strValues ps/\ps.map (·.1)=l
 | [],_,.nil=>[[]:1:1]
 |x::r,_,.cons ⟨t,e⟩ h=>by
  erw[wk h,ps,O,U];subst e;exact⟨(x,t)::ps,by rw [O];rfl,by rw [uq,U]⟩
theorem WX (z:Str):¬Vw z<Vw " ":=by
 have h1:Vw " "=1:=by decide+kernel
 rw [h1];unfold Vw;split
 ·omega
 ·split<;>omega
theorem kX (c:Nat):∀(n:Nat) (L:oj Nat),(cutL c n L).length<=L.length+1
 |0,L=>by simp [cutL]
 |n+1,[]=>by simp [cutL]
 |n+1,a::r=>by
  by_cases h:a=c
  ·have:=kX c n r;simp [cutL,h];omega
  ·have:=kX c (n+1) r;erw[JA c (n+1) r,p,q,e];rw [e] at this;simp only [cutL,A4 h,e];simp at this⊢;omega
noncomputable def spl (n:Nat)(z:Str):oj Str:=(cutL 32 n z.cps.toList).map ofL
theorem spl_len (n:Nat)(z:Str):(spl n z).length<=z.length+1:=by
 unfold spl;rw [ua];have:=kX 32 n z.cps.toList
 simpa [VV] using this
theorem J4:(" ":Str)=⟨#[32]⟩:=by decide+kernel
variable {z:Str}{n:Nat}
theorem spl_one (hn:z.length<=n∨z.length<1∨True)(h:(occurrences z " " 0 z.length n).isEmpty=v_)(h0:n≠0):spl n z= [z]:=by
 rw [J4,Kv,List.isEmpty_iff] at h;have h1:posL 32 z.cps.toList 0= []:=by
  cases e:posL 32 z.cps.toList 0 with
  |nil=>rfl
  |cons a r=>
   rw [e] at h;obtain⟨k,rfl⟩:∃k,n=k+1:=[n-1:()]
   simp at h
 unfold spl;rw [wP (ZC h1)];simp [Q7]
section
variable {X:Cx}
inductive rSplit (x:V) (vs:List V) (H:Hp) (Q:VK):Prop
 |mk (z:_) (_:x= .str z) (_:vs= [.str " "]) (_:z.length<=1000) (_:∀p,H p=U_->Q (.ref p) (upd H p (.lst ((spl (z.length+1) z).map V.str))))
variable {oq:oj (o3×Obj)}{σ:St}{H:Hp}{s:o7}{Q:VK}{ys:oj V}{its:oj o6}{t':Nat}
theorem J8 (I:Inv X oq σ H s)(O:Vals ys its)(U:ys.length<=Vb)(q:∀p,H p=U_->Q (.ref p) (upd H p (.lst ys)))(ht:0<t':=by ac_rfl):
  EP X oq σ Q (.ref s.heap.objs.size) {s with heap:=s.heap.push {cls:= .type "list",data:= .seq its.toArray},toks:=t'}:=
 ⟨.ref s.heap.objs.size,_,I.lnew O U,1,q _ I.fresh⟩
theorem mt_split:MtM X "str.split" rSplit:=by
 intro oq s σ H x vs v us Q I rx rv h;erw[h,z,rfl,rfl,hz,q];erw[rx,t,rfl];erw[rv.one,u,rfl,t',rfl];have O:z.length<=sizeLine:=by rw [uB];omega
 have one:spl (z.length+1) z= [z]->∀(T:Nat),0<T->EP X oq σ Q (.ref s.heap.objs.size) {s with heap:=s.heap.push {cls:= .type "list",data:= .seq [VC z t].toArray},toks:=T}:=λe T hT=>by
  rw [e] at q;exact J8 (ys:= [V.str z]) I (.cons (show RelV (V.str z) _ from[t:1]) .nil) (by show 1<=Vb;decide) q
 cases h1:(decide (z.length<(" ":Str).length)||decide (Vw z<Vw " ")) with
 |true=>
  refine vQ vG (vP _ _ _) vC (U3 _ _) (FH z " " t t' h1) ?_;have h2:z.length<1:=by
   rw [GY] at h1;rcases h1 with h1|h1
   ·exact um h1
   ·exact absurd (um h1) (WX z)
  refine one ?_ s.toks I.tk;have e:z.cps.toList= []:=Ui (by simpa [VV] using h2)
  unfold spl;rw [e,cutL];rw [<-Q7 z,e]
  rfl
 |false=>
  cases U:(occurrences z " " 0 z.length (z.length+1)).isEmpty with
  |true=>
   refine vQ vG (vP _ _ _) vC (U3 _ _) (Rt z " " t t' h1 () U) ?_
   exact one (spl_one (.inr (.inr trivial)) U ()) s.toks I.tk
  |false=>
   have hl:=spl_len (z.length+1) z;have e:partsBetween z (occurrences z " " 0 z.length (z.length+1)) (" ":Str).length=spl (z.length+1) z:=by
    rw [J4];exact parts_cut z 32 (z.length+1)
   refine vQ vG (vP _ _ _) vC (U3 _ _) (rc z " " t t' h1 () U O (by rw [e,uB];omega)) ?_
   rw [e];exact J8 I (X1 _ _) (by rw [ua,uB];omega) q
theorem Xk (x y:Str)(k:Int)(t u v:Tok)(hk:(decide (k< -(2^63:Int))||decide (k≥2^63))=V7)(h1:(decide (x.length<y.length)||decide (Vw x<Vw y))=V7)(hy:(y.length==0)=V7)
  (hf:(occurrences x y 0 x.length (GL x k)).isEmpty=v_):Meets («str.split» [[.str x t,.str y u,.int k v]:[]]) (TQ x t):=by
 erw[rP x y k t u v hk,U,O];refine .of_wp λprog w A R s h=> ?_;rw [O,h1,hy,hf];show V8 _ _ (do rule "str.split.same-object";ret (<-Ht [.str x t])) _ _ s
 exact A6 (UU (A6 (Hu (uw [0:h]) (by show 1<=Vb;decide))))
theorem j0 (x y:Str)(k:Int)(t u v:Tok)(hk:(decide (k< -(2^63:Int))||decide (k≥2^63))=V7)(h1:(decide (x.length<y.length)||decide (Vw x<Vw y))=v_):
  Meets («str.split» [[.str x t,.str y u,.int k v]:[]]) (TQ x t):=by
 erw[rP x y k t u v hk,U,O];refine .of_wp λprog w A R s h=> ?_;rw [O,h1];show V8 _ _ (do rule "str.split.sep-cannot-occur";ret (<-Ht [.str x t])) _ _ s
 exact A6 (UU (A6 (Hu (uw [0:h]) (by show 1<=Vb;decide))))
inductive rSplitN (x:V) (vs:List V) (H:Hp) (Q:VK):Prop
 |mk (z:Str) (n:Nat) (_:x= .str z) (_:vs= [.str " ",.int (n:Int)]) (_:z.length<=1000) (_:0<n) (_:n<=1000) (_:∀p,H p=U_->Q (.ref p) (upd H p (.lst ((spl n z).map V.str))))
theorem mt_splitN:MtM X "str.split" rSplitN:=by
 intro oq s σ H x vs v us Q I rx rv h;erw[h,z,n,rfl,rfl,hz,ac,hn,q];erw[rx,t,rfl];erw[vals2 rv,u,u',rfl,[t',rfl],[U,rfl]];have aa:z.length<=sizeLine:=by rw [uB];omega
 have hk:(decide ((n:Int)< -(2^63:Int))||decide ((n:Int)≥2^63))=false:=by
  rw [uc (),uc ()];rfl
 have O:GL z (n:Int)=n:=by
  unfold GL;rw [A4 ()]
  omega
 have one:spl n z= [z]->∀(T:Nat),0<T->EP X oq σ Q (.ref s.heap.objs.size) {s with heap:=s.heap.push {cls:= .type "list",data:= .seq [VC z t].toArray},toks:=T}:=λe T hT=>by
  rw [e] at q;exact J8 (ys:= [V.str z]) I (.cons (show RelV (V.str z) _ from[t:1]) .nil) (by show 1<=Vb;decide) q
 cases h1:(decide (z.length<(" ":Str).length)||decide (Vw z<Vw " ")) with
 |true=>
  refine vQ vG (vP _ _ _) vC (F.args_str_split_3 _ _ _) (j0 z " " n t t' U hk h1) ?_;have h2:z.length<1:=by
   rw [GY] at h1;rcases h1 with h1|h1
   ·exact um h1
   ·exact absurd (um h1) (WX z)
  refine one ?_ s.toks I.tk;have e:z.cps.toList= []:=Ui (by simpa [VV] using h2)
  obtain⟨j,rfl⟩:∃j,n=j+1:=[n-1:()]
  unfold spl;rw [e,cutL];rw [<-Q7 z,e]
  rfl
 |false=>
  cases hf:(occurrences z " " 0 z.length (GL z (n:Int))).isEmpty with
  |true=>
   refine vQ vG (vP _ _ _) vC (F.args_str_split_3 _ _ _) (Xk z " " n t t' U hk h1 () hf) ?_
   rw [O] at hf;exact one (spl_one (.inr (.inr trivial)) hf ()) s.toks I.tk
  |false=>
   have hl:=spl_len n z;have e:partsBetween z (occurrences z " " 0 z.length (GL z (n:Int))) (" ":Str).length=spl n z:=by
    rw [J4,O];exact parts_cut z 32 n
   refine vQ vG (vP _ _ _) vC (F.args_str_split_3 _ _ _) (meets_str_split_sep_max z " " n t t' U hk h1 () hf aa (by rw [e,uB];omega)) ?_
   rw [e];exact J8 I (X1 _ _) (by rw [ua,uB];omega) q
noncomputable def xb (c:Nat):oj Nat->oj Nat
 | []=> []
 |a::r=>if a=c then [] else a::xb c r
theorem headL_pos {c:Nat}:∀{L:oj Nat}{i j:Nat}{r:oj Nat},posL c L i=j::r->i<=j/\xb c L=L.take (j-i)
 | [],_,_,_,h=>by simp [posL] at h
 |a::q,i,j,r,h=>by
  by_cases e:a=c
  ·rw [posL,A5 e] at h;cases h;exact⟨uh _,by simp [xb,e]⟩
  ·rw [posL,A4 e] at h;erw[headL_pos h,h1,h2];exists ()
   rw [xb,A4 e,h2,show j-i=(j-(i+1))+1 by omega,UG]
theorem zt {c:Nat}:∀{L:oj Nat},c∉L->xb c L=L
 | [],_=>rfl
 |a::r,h=>by
  have h1:a≠c:=λe=>h (by simp [e])
  rw [xb,A4 h1,zt λz=>h (ue _ z)]
noncomputable def hd (z:Str):Str:=ofL (xb 32 z.cps.toList)
theorem fin_tup (I:Inv X oq σ H s)(O:Vals ys its)(U:ys.length<=Vb)(q:∀p,H p=U_->Q (.ref p) (upd H p (.tup ys)))(ht:0<t':=by ac_rfl):
  EP X oq σ Q (.ref s.heap.objs.size) {s with heap:=s.heap.push {cls:= .type "tuple",data:= .seq its.toArray},toks:=t'}:=
 ⟨.ref s.heap.objs.size,_,I.laid (o:= .tup ys) (λ_ _ w=>ud _ w) (uh _) ⟨U,its,O,GK _ _⟩,1,q _ I.fresh⟩
inductive rPart (x:V) (vs:List V) (H:Hp) (Q:VK):Prop
 |mk (z:_) (_:x= .str z) (_:vs= [.str " "]) (_:z.length<=1000) (_:∀p a b,H p=U_->Q (.ref p) (upd H p (.tup [.str (hd z),.str a,.str b])))
theorem mt_part:MtM X "str.partition" rPart:=by
 intro oq s σ H x vs v us Q I rx rv h;erw[h,z,rfl,rfl,hz,q];erw[rx,t,rfl];erw[rv.one,u,rfl,t',rfl];have U:z.length<=sizeLine:=by rw [uB];omega
 refine vQ F.slot_str_partition (vP _ _ _) F.entry_str_partition (F.args_str_partition_2 _ _) (meets_str_partition z " " t t' () U) ?_
 cases O:occurrences z " " 0 z.length 1 with
 |nil=>
  have h0:hd z=z:=by
   rw [J4,Kv] at O;have h1:posL 32 z.cps.toList 0= []:=by
    cases e:posL 32 z.cps.toList 0 with
    |nil=>rfl
    |cons a r=>rw [e] at O;simp at O
   unfold hd;rw [zt (ZC h1),Q7]
  refine fin_tup (ys:= [.str (hd z),.str T9,.str T9]) (t':=s.toks+1) I (.cons (show RelV (V.str (hd z)) _ from⟨t,by rw [h0]⟩) (.cons (show RelV (V.str _) _ from⟨0⟩) (.cons (show RelV (V.str _) _ from⟨0⟩) .nil))) (by show 3<=Vb;decide) λp hp=>q p _ _ hp
 |cons i r=>
  have h0:hd z=strSub z 0 i:=by
   rw [J4,Kv] at O;cases e:posL 32 z.cps.toList 0 with
   |nil=>rw [e] at O;simp at O
   |cons a r'=>
    rw [e] at O;have:a=i:=by simp at O;exact O.1
    subst this;erw[headL_pos e,_,h2];unfold hd;rw [h2,<-Q7 (strSub z 0 a),Fd,Hi]
  refine fin_tup (ys:= [.str (hd z),.str " ",.str _]) (t':=s.toks+1+1) I (.cons (show RelV (V.str (hd z)) _ from⟨s.toks,by rw [h0]⟩) (.cons (show RelV (V.str _) _ from[t':1]) (.cons (show RelV (V.str _) _ from[s.toks+1:1]) .nil))) (by show 3<=Vb;decide) λp hp=>q p _ _ hp
inductive rJoin (K:PySem.W.Frag) (x:V) (vs:List V) (H:Hp) (Q:VK):Prop
 |mk (sep:Str) (p:Addr) (l:List Str) (_:x= .str sep) (_:vs= [.ref p]) (_:SqL K H p (l.map V.str)) (_:(l.map (·.length)).sum+l.length*sep.length<=1000000) (_:Q (.str (Vg sep l)) H)
theorem Kf:MtM X "str.join" (rJoin X.K):=by
 intro oq s σ H x vs v us Q I rx rv h;erw[h,sep,p,l,rfl,rfl,hp,hz,q];erw[rx,t,rfl];erw[rv.one,u,rfl,ru];cases ru;erw[I.list hp,its,r,pl,hl];erw[wk r,ps,rfl,e2];have U:tooLong ((ps.map (·.1)).toArray.foldl (·+ ·.length+sep.length) 0)=false:=by
  rw [e2];have:=TC sep l;rw [this];unfold tooLong;refine uc ?_;rw [uB];omega
 refine vQ F.slot_str_join (vP _ _ _) F.entry_str_join (F.args_str_join_2 _ _) (meets_str_join_list sep t p ps U) [pl.isList:?_];have O:(glued sep (ps.map (·.1))).length<=sizeLine:=FR U
 match ps,e2,O with
 | [],e2,O=>
  subst e2;exact⟨O,.str _,H,I.tok _,⟨0⟩,q⟩
 | [a],e2,_=>
  subst e2;exact⟨.str _,H,I,[a.2:1],q⟩
 |a::b::r,e2,O=>
  subst e2;exists O,.str _,H,I.tok _,⟨0⟩;rw [rq];exact q
theorem call_intS:Ye X (.type "int") (λxs H Q=>∃z n,xs= [.str z]/\PySem.intText? z=u_ n/\z.length<=640/\Q (.int n) H):=by
 intro oq s σ H xs us Q I r h;erw[h,z,n,rfl,hn,O,q];erw[jH r,u,rfl,t,rfl];exact PySem.W.KIN.call_text hn O ⟨.int n,H,I.tok _,⟨0⟩,q⟩
end
end L2
namespace L2
open PySem PySem.Spec PyProof.Rows
variable {X:Cx}{oq:oj (o3×Obj)}{σ:St}{H:Hp}{s:o7}{h':o8}{t':Nat}{fp:oj o3}
theorem Inv.turnedL (I:Inv X oq σ H s)(k:∀b o,b∉fp->s.heap.get? b=u_ o->h'.get? b=u_ o)(U:∀b∈fp,FpOk X oq H b)(ht:0<t':=by ac_rfl):Inv X oq σ H {s with heap:=h',toks:=t'}:=by
 have aa:∀b u,H b=u_ u->b∉fp:=λb u e z=>by
  have:=(U b z).1;rw [this] at e;cases e
 have nL:X.env.locals∉fp:=λz=>(U _ z).2.1 rfl;refine I.step (g':=s.gens) (d':=s.drawn) (ch:=fp) (λb hb=>⟨(U b hb).2.2.2.1,(U b hb).2.1,(U b hb).2.2.2.2.1,(U b hb).2.2.2.2.2⟩) (λb o _ _ O e _=>k b o O e) (λb o _ _ O e _=>[o.slots:k b o O e]) (λ_ _ _ _ n=>n)
  (λb o O e=>[o:k b o O e]) (λ_ _ e=>e) (λ_ _ _ e=>e) (λb ps e=>⟨#[],by rw [e];simp⟩) (λm hm=> ?_) (λb u e=> ?_) I.bare
 ·erw[hm,o,es,ep,ho,r];exact⟨o,es,ep,k _ o nL ho,r⟩
 ·refine(I.hok b u e).stay (λc v O q=>k c v ?_ q) (λ_ q=>q) λ_ _ q=>q;rcases O with z|z
  ·rw [z];exact aa b u e
  ·exact aa c _ z
theorem Inv.handed {X:Cx}{oq:oj (o3×Obj)}{σ:St}{H:Hp}{s:o7}{h':o8}{t':Nat}{fp:oj o3}{ys:oj V}{its:oj o6}(I:Inv X oq σ H s)(hf:∀b∈fp,FpOk X oq H b)(hl:∀b∈fp,b<s.heap.objs.size)(hv:Vals ys its)(hz:ys.length<=Vb)
  (hn:h'.get? s.heap.objs.size=u_ {cls:= .type "tuple",data:= .seq its.toArray}) (hs:h'.objs.size=s.heap.objs.size+1) (k:∀b o,b∉fp->s.heap.get? b=u_ o->h'.get? b=u_ o) (ht:0<t':=by ac_rfl):
  Inv X oq σ (upd H s.heap.objs.size (.tup ys)) {s with heap:=h',toks:=t'}/\∀b∈fp,FpOk X oq (upd H s.heap.objs.size (.tup ys)) b:=by
 have I1:Inv X oq σ (upd H s.heap.objs.size (.tup ys)) {s with heap:=s.heap.push {cls:= .type "tuple",data:= .seq its.toArray},toks:=t'}:=
  I.laid (o:= .tup ys) (λ_ _ w=>ud _ w) (uh _) ⟨hz,its,hv,GK _ _⟩
 have O:∀b∈fp,FpOk X oq (upd H s.heap.objs.size (.tup ys)) b:=λb U=>by
  erw[hf b U,f0,f1,f2,f3,f4,f5];have:=hl b U;exact⟨by rwa [qi (uL this)],f1,f2,f3,f4,f5⟩
 refine[I1.turnedL (h':=h') (t':=t') (λb o U e=> ?_) O:O];rcases Heap.get?_push_cases (show(s.heap.push {cls:= .type "tuple",data:= .seq its.toArray}).get? b=u_ o from e) with⟨rfl,rfl⟩|e'
 ·exact hn
 ·exact k b o U e'
noncomputable def Itz (K:o0)(a b:o3):It:=
 ⟨λi H=>∃xs ys x y,SqT K H a xs/\SqL K H b ys/\xs[i]? =u_ x/\ys[i]? =u_ y,
  λi H v H'=>∃p x y,v= .ref p/\H p=U_/\H'=upd H p (.tup [x,y])/\(∀xs,SqT K H a xs->xs[i]? =u_ x)/\∀ys,SqL K H b ys->ys[i]? =u_ y,
  λi H=>∃xs,SqT K H a xs/\xs.length=i⟩
noncomputable def tnZ (a b z p r i j:o3)(k:Nat)(h:o8):Prop:=
 VA h z p r .none/\Vn h p (.ref i) (.ref j)/\(∃u v,Vn h r u v)/\h.IsTupleIter i a k/\h.IsListIter j b k/\AwZ.Apt z p r i j a b
variable {w:og}{K:o0}
theorem turn_zip {P:o9}{ac:oj Expr}{c:Nat}{tp:Pos}(a b z p r i j:o3):Turn P w K (.Tuple ac c tp) (Itz K a b) [z,p,r,i,j] z (tnZ a b z p r i j) where
 mem:=by simp
 obj:=λk h st x hx=>by
  erw[st,h1,h2,[u,v,h3],[o4,e4,c4,d4],[o5,e5,c5,d5],D];simp only [uz,vj,uM] at hx;rcases hx with rfl|rfl|rfl|rfl|rfl
  ·exact⟨_,h1,λv z=>by cases z⟩
  ·exact⟨_,h2,λv z=>by cases z⟩
  ·exact⟨_,h3,λv z=>by cases z⟩
  ·exact⟨o4,e4,λv z=>by rw [d4] at z;cases z⟩
  ·exact⟨o5,e5,λv z=>by rw [d5] at z;cases z⟩
 keep:=λk h h' st kk=>by
  erw[st,h1,h2,[u,v,h3],[o4,e4,r4],[o5,e5,r5],D];exact⟨kk z (by simp) _ h1,kk p (by simp) _ h2,⟨u,v,kk r (by simp) _ h3⟩,⟨o4,kk i (by simp) _ e4,r4⟩,⟨o5,kk j (by simp) _ e5,r5⟩,D⟩
 item:=by
  intro X hP hw hK O k oq s σ H E I hf st hg;subst hP hw hK;erw[hg,xs,ys,x,y,ha,hb,hx,hy];erw[I.tuple ha,its,ra,pa,za];erw[I.list hb,al,rb,pb,zb];erw[ra.get hx,ux,af,ag];erw[rb.get hy,uy,ah,ak];erw[st,h1,h2,[u,v,h3],h4,h5,D];have l1:=uA h1;have l2:=uA h2;have l3:=uA h3;have l4:i<s.heap.objs.size:=by erw[h4,o,e,_];exact uA e
  have l5:j<s.heap.objs.size:=by erw[h5,o,e,_];exact uA e
  refine AwZ.zip_go D h1 h2 h3 h4 h5 (show s.heap.IsTuple a its.toArray from pa) pb.isList (x:=ux) (y:=uy) (by simpa using af) (by simpa using ah) λh' g1 g2 g3 g4 g5 g6 g7=> ?_
  have g8:Vn h' p (.ref i) (.ref j):=g7 _ _ D.pz D.pr D.pi D.pj h2;obtain⟨I1,ad⟩:=I.handed (t':=s.toks) (ys:= [x,y]) (its:= [ux,uy]) hf (λc O=>by
   simp only [uz,vj,uM] at O;rcases O with rfl|rfl|rfl|rfl|rfl<;>assumption) (.cons ag (.cons ak .nil)) (by show 2<=Vb;decide) g5 g6 (λc o O e=>by
    simp only [uz,vj,uM,V5] at O;exact g7 c o O.1 O.2.2.1 O.2.2.2.1 O.2.2.2.2 e)
  refine[0:wpAny_letOwnedTupleGo_zip (s:={s with heap:=h'}) g1 λae z2 s2=> ?_]
  have U:∀c o,c≠z->h'.get? c=u_ o->ae.get? c=u_ o:=λc o O e=>s2.extBut c o O e;refine⟨.ref s.heap.objs.size,_,I1.turnedL (fp:= [z]) (h':=ae) (t':=s.toks) (λc o O e=>U c o (by simpa using O) e) (λc O=>ad c (by simp at O;simp [O])),1,⟨_,x,y,1,I.fresh,1,λzs aa=> ?_,λzs aa=> ?_⟩,⟨z2,U _ _ D.pz g8,[_:_:U _ _ D.rz g2],?_,?_,D⟩,λc O=>(ad c O).1⟩
  ·rwa [I.tuple_inj aa ha]
  ·rwa [I.list_inj aa hb]
  ·erw[g3,o,e,q];exact[o:U _ _ D.iz e:q]
  ·erw[g4,o,e,q];exact[o:U _ _ D.jz e:q]
 done:=by
  intro X hP hw hK O k oq s σ H E I hf st hg;subst hP hw hK;erw[hg,xs,ha,hx];erw[I.tuple ha,its,ra,pa,za];have hl:=ra.length;erw[st,h1,h2,[u,v,h3],h4,h5,D];refine AwZ.zip_stop (A:=X.A) (I.ok.hd O) D h1 h2 h4 (show s.heap.IsTuple a its.toArray from pa) (by simp;omega) λh' kk=>[1:?_]
  exact I.turnedL (t':=s.toks) (λc o O e=>by
   simp only [uz,vj,uM,V5] at O;exact kk c o O.1 O.2.2.1 O.2.2.2.1 O.2.2.2.2 e) hf
 self:=λ_ _ _ _ _ st h=>RK st.1 h
section
variable {X:Cx}
variable {n:Nat}
theorem apt_mk {a b:Nat}(ha:a<n)(O:b<n):AwZ.Apt (n+4) (n+2) (n+3) n (n+1) a b:=by
 constructor<;>exact(show _≠((_:Nat)) by omega)
theorem five_le {x:Nat}(h:x=n+4∨x=n+2∨x=n+3∨x=n∨x=n+1):n<=x:=by omega
noncomputable def iZip (K:o0)(ta:TA):TI:=λσ H R=>ta σ H λvs H1=>∃a b xs ys,vs= [.ref a,.ref b]/\SqT K H1 a xs/\SqL K H1 b ys/\R (Itz K a b) H1
theorem pi_zip {U:oj Expr}{c:Nat}{tp p pos:Pos}{e1 O:Expr}{ta:TA}(hg:Gl X "zip")(hm:X.mg "zip"=U_)(ha:PA X [e1,O] ta)(hs:Vd [e1,O] X.env= [(V7,eval e1 X.env),(V7,eval O X.env)])(aa:Vd [O] X.env= [(V7,eval O X.env)]):
  PI X (.Tuple U c tp) (.Call (.Name "zip" p) [e1,O] [] pos) (iZip X.K ta):=by
 intro oq s σ H R I h;refine Hz (XO I hg hm boot_zip (vf (thn (ha pos oq s σ H _ I h) λus s1 zq=> ?_) (by rw [hs,aa]) (by rw [aa];rfl)));erw[zq,vs,H1,I1,r1,q1]
 erw[q1,a,b,xs,ys,e,hA,hB,q];subst e;erw[vals2 r1,u,u',rfl,ru,ad];cases ru;cases ad;erw[I1.tuple hA,its,ra,pa,za];erw[I1.list hB,ae,rb,pb,zb];have la:a<s1.heap.objs.size:=by erw[id pa,o,e,_];exact uA e
 have lb:b<s1.heap.objs.size:=by erw[id pb,o,n,e,_];exact uA e
 refine AwZ.zip_call (show s1.heap.IsTuple a its.toArray from pa) pb.isList λh2 g1 g2 g3 g4 g5 g6 g7=> ?_
 refine RK (s:={s1 with heap:=h2}) g1 ?_
 refine⟨_,[s1.heap.objs.size+4,s1.heap.objs.size+2,s1.heap.objs.size+3,s1.heap.objs.size,s1.heap.objs.size+1],_,_,H1,1,I1.kept (t':=s1.toks) g7,turn_zip a b _ _ _ _ _,⟨g1,g2,[_:_:g3],g4,g5,?_⟩,λx hx=> ?_,q⟩
 ·exact apt_mk la lb
 ·have ac:s1.heap.objs.size<=x:=by
   simp only [uz,vj,uM] at hx;exact five_le hx
  exact I1.fpOk ac (I1.hok.fresh ac)
noncomputable def KDict (K:o0)(w:og)(a:o3):Prop:=(a==Vu)=V7/\∃es n,K.lookup a=u_ ⟨.type "dict",U_,.dict es n,#[]⟩/\PySem.W.KeysLit w.params es.toList
inductive rNotK (K:PySem.W.Frag) (w:World) (x:V) (y:V) (H:Hp) (Q:VK):Prop
 |mk (z:_) (a:_) (r:_) (_:x= .str z) (_:y= .ref a) (_:KDict K w a) (_:PySem.W.nsIn K a z=u_ r) (_:Q (.bl (!r.isSome)) H)
theorem op_notK:OpR X (Vl .NotIn) (rNotK X.K X.w):=by
 intro oq s σ H x y v u Q I U ry h;erw[h,z,a,r,rfl,rfl,[hs,es,n,O,hk],hn,q];erw[U,t,rfl];cases ry;have hm:=PySem.W.mapOf_K (prog:=X.prog) (w:=X.w) I.kIn O hk;refine Rg (Tb X.prog X.w z t) hs hm ⟨.bl (!r.isSome),H,I.tok _,?_,q⟩;rw [PySem.W.find_K O hn]
 rfl
inductive rIxK (K:PySem.W.Frag) (w:World) (x:V) (y:V) (H:Hp) (Q:VK):Prop
 |mk (z:_) (a:_) (u:_) (v:_) (_:x= .ref a) (_:y= .str z) (_:KDict K w a) (_:PySem.W.nsIn K a z=u_ (u_ u)) (_:RelV v u) (_:Q v H)
theorem ix_K:IxR X (rIxK X.K X.w):=by
 intro value slice oq s σ H x y v u Q I U ry h hs;erw[h,z,a,u',v',rfl,rfl,[_,es,n,O,hk],hn,hr,q];erw[ry,t,rfl];cases U;have hm:=PySem.W.mapOf_K (prog:=X.prog) (w:=X.w) I.kIn O hk;exact Ho hm.typeIs slot_dict_getitem.lookup (RF (Tb X.prog X.w z t) hm (PySem.W.find_K O hn) ⟨v',H,I.tok _,hr,q⟩) hs
end
section
variable {X:Cx}{K:o0}
theorem Kk (h:X.K=K):Ye X (.builtin "len") (λxs H Q=>∃p ys,xs= [.ref p]/\(SqL K H p ys∨SqT K H p ys)/\Q (.int ys.length) H):=by subst h;exact qM
theorem pg_tupK {es:oj Expr}{k:Nat}{t:TGs}{n:Nat}{pos:Pos}(U:X.K=K)(hc:X.calm=v_)(h:PGs X es t)
  (hn:(VU es X.env).length=n) (O:(VU es X.env).findIdx? (·.1)=U_):PG X (.Tuple es k pos) (gTup K n t):=by subst U;exact pg_tup hc h hn O
end
theorem J1 {lo:Int}{n:Nat}{L:o3}{H1:Hp}{te:TE}{tl:St}{Q:VK}(C:Nat->oj V->Hp->Prop)(hn:n<=Vb)(h0:C 0 [] (upd H1 L (.lst [])))
  (hs:∀i ys H,i<n->C i ys H->H L=u_ (.lst ys)->ys.length<=i->∀R:VK,(∀y H4,H4 L=u_ (.lst ys)->C (i+1) (ys++ [y]) (upd H4 L (.lst (ys++ [y])))->R y H4)->te (u_ (.int (lo+(i:Int)))::tl) H R)
  (hQ:∀ys H,C n ys H->H L=u_ (.lst ys)->Q (.ref L) H):lcGo L (Itr lo n) (jI 0) tYes te (U_::tl) H1 Q:=by
 refine⟨n,λi σ ys H=>(∃x,σ=x::tl)/\C i ys H,hn,[[U_:1]:h0],?_,?_⟩
 ·rintro i σ ys H hi ⟨⟨x,rfl⟩,O⟩ U hy;exists hi;rintro x' H' ⟨rfl,rfl⟩;dsimp only [jI,tYes,GB];rw [A5 rfl];exact hs i ys H' hi O U hy _ λy H4 e c=>[e:⟨0⟩:c]
 ·rintro σ ys H ⟨_,O⟩ U;exact[uh _:hQ ys H O U]
theorem lc_zip {K:o0}{a b A:o3}{H1:Hp}{te:TE}{tl:St}{Q:VK}{xs ys:oj V}(f:Nat->D)(ha:∀H,Same H1 H->SqT K H a xs)(hb:∀H,Same H1 H->SqL K H b ys)(ad:xs.length=ys.length)(hn:xs.length<=Vb)(hA:H1 A=U_)
  (aa:∀i x y H (R:VK),xs[i]? =u_ x->ys[i]? =u_ y->Same H1 H->(∀v H',Same H H'->Is H' (f i) v->R v H')->te (u_ x::u_ y::tl) H R)
  (hQ:∀H' vs,Same H1 H'->H' A=u_ (.lst vs)->L2.IsL H' ((Vi xs.length).map f) vs->Q (.ref A) H'):lcGo A (Itz K a b) (gTup K 2 (gCons (jI 0) (gCons (jI 1) gNil))) tYes te (U_::U_::tl) H1 Q:=by
 refine⟨xs.length,λi σ us H=>(∃u v,σ=u::v::tl)/\L2.IsL H ((Vi i).map f) us/\Same H1 H,hn,[[U_:U_:1]:1:qg hA _],?_,?_⟩
 ·rintro i σ us H hi ⟨⟨u,v,rfl⟩,hl,sm⟩ O ae;have hx:xs[i]? =u_ xs[i]:=ug hi;have hy:ys[i]? =u_ (ys[i]'()):=ug _
  refine[⟨xs,ys,_,_,ha H sm,hb H sm,hx,hy⟩:λx H' y=> ?_];erw[y,p,x',y',rfl,hp,rfl,e1,e2];have e1:=e1 xs (ha H sm);have e2:=e2 ys (hb H sm);have s2:Same H (upd H p (.tup [x',y'])):=qg hp _;exists p,0,SqT.of qh,1,x',0,y',0,1;dsimp only [tYes];rw [A5 rfl];refine aa i x' y' _ _ e1 e2 (sm.trans s2) λy4 H4 U ac=>⟨U _ _ (s2 _ _ O),[_:0],?_,λb o e=> ?_⟩
  ·have t:Tk H4 (upd H4 A (.lst (us++ [y4]))):=Tk.updL (U _ _ (s2 _ _ O));rw [tX,Vc];exact((hl.mono (s2.trans U).tk).mono t).append (IsL.one (ac.mono t))
  ·rw [qi (qk e hA)];exact U b o (s2 b o (sm b o e))
 ·rintro σ us H ⟨_,hl,sm⟩ O;exact[[xs:ha H sm:1]:hQ H us sm O hl]
theorem wQ (z:Str)(l:oj Str):inV (.str z) (l.map V.str)=decide (z∈l):=by
 unfold inV;rw [Hg,vD,Tf,uH];constructor
 ·rintro⟨x,U,e⟩;have O:(x==z)=true:=e;rw [V3] at O;exact O▸U
 ·intro h;exact⟨z,h,by show(z==z)=v_;exact beq_self_eq_true z⟩
theorem wu (l:oj Str):(l.map V.str).all Zo=true:=by
 rw [UJ,Uj];intro x _
 rfl
inductive Pt where
 |s (z:Str)|n (i:Int)
noncomputable def Pt.d:Pt->D
 | .s z=> .str z
 | .n i=> .int i
noncomputable def Pt.t:Pt->Str
 | .s z=>z
 | .n i=>Vh i
inductive Kd where
 |box|line|words
 deriving DecidableEq
noncomputable def Kd.t:Kd->Str
 | .box=>"box"
 | .line=>"line"
 | .words=>"words"
noncomputable def BX:oj Str:= ["a","b","c","d","e","f","g","h"]
noncomputable def FRM:oj (Str×oj Kd):= [("text",[.box,.words]),("self",[.box]),("copy",[.box,.box]),("row",[.box]),("put",[.box,.box]),("join",[.box,.box]),("first",[.box,.box]),("rest",[.box,.box]),
 ("size",[.box,.box]),("cut",[.box,.box,.box]),("glue",[.box,.box,.box]),("ask",[.box,.box]),("has",[.box,.box]),("names",[.box,.box]),("go",[.line]),("like",[.box,.box,.line]),
 ("rowed",[.box,.line]),("none",[.box,.line]),("say",[.box]),("fault",[])]
noncomputable def ptOk (n m:Nat):Kd->Pt->Prop
 | .box,.s z=>z∈BX
 | .line,.n i=>1<=i/\i<=n
 | .words,.s z=>z.length<=m/\z.cps.toList.all QD=v_
 |_,_=>False
noncomputable def Xf (n m:Nat):oj Kd->oj Pt->Prop
 | [],[]=>True
 |k::ks,p::ps=>ptOk n m k p/\Xf n m ks ps
 |_,_=>False
noncomputable abbrev Rw:=Str×oj Pt
noncomputable def j7 (n m:Nat)(r:Rw):Prop:=∃ks,(r.1,ks)∈FRM/\Xf n m ks r.2
noncomputable def txs (r:Rw):oj Str:=r.1::r.2.map Pt.t
noncomputable def Yb (r:Rw):Str:=Vg " " (txs r)
noncomputable def rowD (r:Rw):D:= .tup [.str r.1,.tup (r.2.map Pt.d)]
theorem Ji:∀(x y:Str) (r:oj Str),(Vg " " (x::y::r)).cps.toList=x.cps.toList++32::(Vg " " (y::r)).cps.toList:=by
 intro x y r;show((x.cps++(" ":Str).cps)++(Vg " " (y::r)).cps).toList=_;rw [tN,tN,J4];simp
noncomputable abbrev Free (z:Str):Prop:=32∉z.cps.toList
theorem Kh:∀(l:oj Str) (z:Str) (n:Nat),(∀p∈l,Free p)->(n=0∨Free z)->spl (l.length+n) (Vg " " (l++ [z]))=l++ [z]
 | [],z,n,_,hz=>by
  show spl (0+n) z= [z];rw [G_];unfold spl;rcases hz with rfl|hz
  ·rw [cutL];show [ofL z.cps.toList]= [z];rw [Q7]
  ·rw [wP hz];show [ofL z.cps.toList]= [z];rw [Q7]
 |p::l,z,n,hl,hz=>by
  have O:=Kh l z n (λq U=>hl q (ue _ U)) hz;have hp:Free p:=hl p uf;obtain⟨y,r,e⟩:∃y r,l++ [z]=y::r:=by cases l<;>exact[_:0]
  show spl ((l.length+1)+n) (Vg " " (p::(l++ [z])))=p::(l++ [z]);rw [e] at O⊢;unfold spl at O⊢;rw [Ji,show l.length+1+n=(l.length+n)+1 by omega,cutL_app hp,uq,O,Q7]
theorem hd_join (w:Str)(r:oj Str)(h:Free w):hd (Vg " " (w::r))=w:=by
 have O:∀(p q:oj Nat),32∉p->xb 32 (p++32::q)=p:=by
  intro p
  induction p with
  |nil=>intro q _;simp [xb]
  |cons a p U=>
   intro q h;have h1:a≠32:=λe=>h (by simp [e])
   show xb 32 (a::(p++32::q))=a::p;rw [xb,A4 h1,U q λz=>h (ue _ z)]
 cases r with
 |nil=>
  show ofL (xb 32 w.cps.toList)=w;rw [zt h,Q7]
 |cons y r=>
  unfold hd;rw [Ji,O _ _ h,Q7]
theorem join_len:∀(l:oj Str),l≠ []->(Vg " " l).length+1=(l.map (·.length)).sum+l.length
 | [],h=>absurd rfl h
 | [x],_=>by simp [Vg]
 |x::y::r,_=>by
  have O:=join_len (y::r) (by simp)
  have e:(Vg " " (x::y::r)).length=x.length+(1+(Vg " " (y::r)).length):=by
   have:=congrArg Vz (Ji x y r);rw [uu,ui] at this;simp only [uU] at this;show(Vg " " (x::y::r)).cps.size=_;rw [this];show x.cps.size+((Vg " " (y::r)).cps.size+1)=x.cps.size+(1+(Vg " " (y::r)).cps.size);omega
  rw [e,uq,UB,ui];omega
variable {i:Int}
theorem num_small (h1:1<=i)(h2:i<=40):(Vh i:Str).length<=2/\Free (Vh i:Str)/\(Vh i:Str).cps.toList.all QD=true:=by
 obtain⟨k,rfl⟩:∃k:Fin 41,i=((k.val:Nat):Int):=⟨[i.toNat:()],by simp;omega⟩
 have O:∀k:Fin 41,(Vh ((k.val:Nat):Int):Str).length<=2/\decide (Free (Vh ((k.val:Nat):Int):Str))=v_/\(Vh ((k.val:Nat):Int):Str).cps.toList.all QD=true:=by decide+kernel
 erw[O k,a,b,c];exact[a:um b:c]
theorem kT (h1:1<=i)(h2:i<=40):PySem.intText? (Vh i:Str)=u_ i:=PySem.W.KIN.num_reads () ()
variable {z:Str}
theorem box_ok (h:z∈BX):z.length=1/\Free z/\z.cps.toList.all QD=true:=by
 have O:∀z∈BX,z.length=1/\decide (Free z)=v_/\z.cps.toList.all QD=true:=by decide+kernel
 erw[O z h,a,b,c];exact[a:um b:c]
theorem word_ok:∀x∈FRM,decide (Free x.1)=v_/\x.1.cps.toList.all QD=true:=by decide+kernel
theorem form_ok:∀x∈FRM,(decide (Kd.words∈x.2)=V7)∨x=(("text":Str),[Kd.box,Kd.words]):=by decide+kernel
theorem form_nd:∀x∈FRM,∀y∈FRM,x.1=y.1->x=y:=by decide+kernel
variable {n:Nat}
theorem ptOk_free {m:Nat}(hn:n<=40){k:Kd}{p:Pt}(h:ptOk n m k p)(O:k≠ .words):Free p.t:=by
 cases k<;>cases p<;>simp only [ptOk] at h
 ·exact(box_ok h).2.1
 ·exact(num_small h.1 ()).2.1
 ·exact absurd rfl O
theorem Zi {n m:Nat}:∀{ks:oj Kd}{ps:oj Pt},Xf n m ks ps->ps.length=ks.length
 | [],[],_=>rfl
 |_::_,_::_,h=>by rw [ui,ui,Zi h.2]
 | [],_::_,h=>h.elim
 |_::_,[],h=>h.elim
theorem kr {n m:Nat}(hn:n<=40):∀{ks:oj Kd}{ps:oj Pt},Xf n m ks ps->Kd.words∉ks->∀p∈ps.map Pt.t,Free p
 | [],[],_,_=>λp O=>by simp at O
 |_::_,_::_,h,hk=>λp O=>by
  rw [uq] at O;rcases A8.mp O with rfl|O
  ·exact ptOk_free hn h.1 λe=>hk (by simp [e])
  ·exact kr hn h.2 (λz=>hk (ue _ z)) p O
 | [],_::_,h,_=>h.elim
 |_::_,[],h,_=>h.elim
variable {r:Rw}
theorem line_hd {m:Nat}(h:j7 n m r):hd (Yb r)=r.1:=by
 erw[h,ks,O,U];exact hd_join _ _ (um (word_ok _ O).1)
variable {ks:oj Kd}
theorem line_spl {m:Nat}(hn:n<=40)(hk:(r.1,ks)∈FRM)(hp:Xf n m ks r.2):spl (if Kd.words∈ks then ks.length else(Yb r).length+1) (Yb r)=txs r:=by
 have hw:Free r.1:=um (word_ok _ hk).1;by_cases h:Kd.words∈ks
 ·rw [A5 h];rcases form_ok _ hk with e|e
  ·simp at e;exact absurd h e
  ·have e1:ks= [.box,.words]:=congrArg Prod.snd e;subst e1;erw[r,w,ps]
   match ps,hp with
   | [p,q],hp=>
    have:=Kh [w,p.t] q.t 0 (λz hz=>by
     simp only [uz,vj,uM] at hz;rcases hz with rfl|rfl
     ·exact hw
     ·exact ptOk_free hn hp.1 ()) (.inl rfl)
    exact this
 ·rw [A4 h];have hf:∀p∈txs r,Free p:=λp U=>by
   rcases A8.mp U with rfl|U
   ·exact hw
   ·exact kr hn hp h p U
  rcases rR (txs r) with e|⟨l,z,e⟩
  ·simp [txs] at e
  ·rw [FJ] at e;have O:=join_len (txs r) (by simp [txs])
   unfold Yb;rw [e] at hf O⊢;have hl:l.length<=(Vg " " (l++ [z])).length:=by
    rw [uu] at O;simp only [ui,Hc] at O;omega
   have:=Kh l z ((Vg " " (l++ [z])).length+1-l.length) (λq hq=>hf q (ve _ hq)) (.inr (hf z (by simp)))
   rw [show l.length+((Vg " " (l++ [z])).length+1-l.length)=(Vg " " (l++ [z])).length+1 by omega] at this
   exact this
def VE:oj o6:= [.type "ValueError",.type "Exception",.type "BaseException",.type "object"]
noncomputable def CX1 (P:o9)(w:og):CXT:=λouter H s E e s'=>∃(ea C:o3) (a0:o6) (H':Hp) (B:o8),e= .ref ea/\s'.os=s.os/\VS s'.gens/\0<s'.toks/\Un (frs outer) [] H H' s.heap s'.heap/\HOk P w H' B/\
 FQ B outer ea (.ref C) a0 s'.heap/\(∀b o,s.heap.get? b=u_ o->b∉frs outer->∃o',B.get? b=u_ o')/\E (.ref ea) (u_ C) H'
variable {h:o8}{C:o3}
theorem cls_in {bmB:oj o6}{newId:String}(X:K.In h)(q:PySem.W.excIn K C bmB newId=v_):
  ∃bm N nm qn bs hdct sn sub ab col dd k0 k1 k2 k3 k5 mN,h.get? C=u_ (excClassObj nm qn C N bs bm hdct sn sub ab col dd k0 k1 k2 k3 k5 newId)/\h.Ns N mN/\mN "__init__"=U_/\OwnTail h bmB bm:=by
 unfold PySem.W.excIn at q;split at q
 ·rename_i dd cd sl ho
  split at q
  ·rename_i C' bm k0 k1 k2 k3 n k5 hm hs
   simp only [ur,V3,Rk] at q;erw[q,[[[[rfl,rfl],O],ht],hok],U];erw[cd,nm,bs,aa,ns,qn,hd,sn,sub,ab,col,ac];dsimp only at hm O hok U;subst hm O;obtain⟨l⟩:=sl;simp only at hs;subst hs;exact⟨bm,ns,nm,qn,bs,hd,sn,sub,ab,col,dd,k0,k1,k2,k3,k5,_,X _ _ ho,.of_isNs (PySem.W.isNs_of_in X hok),PySem.W.nsMap_none_of_in X hok U,PySem.W.tail_of_in X ht⟩
  ·cases q
 ·cases q
theorem funs_gone {h base B:o8}:∀{l:oj Env},h.FunFrames base l->(∀b∈frs l,B.get? b=U_)->h.FunFrames B l
 | [],_,_=>trivial
 |env::r,⟨hk,⟨L,o,hf,hn,ho,hd⟩,hr⟩,hB=>by
  have e:frs (env::r)=L::frs r:=by unfold frs;rw [vh,hf]
  rw [e] at hB;exact[hk:⟨L,o,hf,hB L uf,ho,hd⟩:funs_gone hr λb O=>hB b (ue _ O)]
noncomputable def tRaise (E:XK)(C:o3)(ta:TE):TS:=λ_ σ H=>tCons ta tNil σ H λvs H1=>vs.length=1/\∀e,E (.ref e) (u_ C) H1
theorem ps_raise {P:o9}{w:og}{K:o0}{mg:Str->om o6}{base:o8}{N:oj Str}{qual:Str}{scope:Vt}{f:o3}{U:o6}{A:oh}{outer:oj Env}{s₀:o7}{H₀:Hp}{E:XK}
  {x:Str}{C:o3}{np cpos pos:Pos}{aa:Expr}{ta:TE} (hx:PySem.W.excIn K C VE "ValueError.__new__"=v_) (hg:Gl (cxOf (CX1 P w) P w K mg base N qual scope f U A outer s₀ H₀ E) x) (hm:mg x=u_ (.ref C))
  (ha:PE (cxOf (CX1 P w) P w K mg base N qual scope f U A outer s₀ H₀ E) aa ta) (hd:(x==("__debug__":Str))=V7)
  (hs:Vd [aa] (Vf qual scope s₀.heap.objs.size f U)= [(V7,eval aa (Vf qual scope s₀.heap.objs.size f U))]):
  PS (cxOf (CX1 P w) P w K mg base N qual scope f U A outer s₀ H₀ E) (.Raise (u_ (.Call (.Name x np) [aa] [] cpos)) U_ pos) (tRaise E C ta):=by
 intro oq s σ H D I h;erw[cls_in I.mod.kin hx,bm,Nn,nm,q,bs,hdct,sn,sub,ab,col,dd,k0,k1,k2,k3,k5,mN,hC,hN,aq,T];have hT:bm.contains (.type "BaseException")=true:=T.hasType ()
 refine wpAny_Raise_call_subT (C:=C) (nm:=nm) (q:=q) (N:=Nn) (bs:=bs) (bm:=bm) (hdct:=hdct) (sn:=sn) (sub:=sub) (ab:=ab) (col:=col) (dd:=dd) (k0:=k0) (k1:=k1) (k2:=k2) (k3:=k3) (k5:=k5)
  (mN:=mN) F.excBase_ValueError hT (I.ok.hd rfl) (by show(Vk cpos (Vd [aa] (Vf qual scope s₀.heap.objs.size f U))).any (·.1)=V7;rw [hs];rfl) aq (KK I hg hm [1:?_] hd)
 have au:PA (cxOf (CX1 P w) P w K mg base N qual scope f U A outer s₀ H₀ E) [aa] (tCons ta tNil):=qb ha qd hs;have hp:=au cpos oq s σ H (λvs H1=>vs.length=1/\∀e,E (.ref e) (u_ C) H1) I h;show V8 _ _ (evalArgs (.ref C) v_ (Vk cpos (Vd [aa] (Vf qual scope s₀.heap.objs.size f U))) []) _ _ s;have aw:Vd [aa] (cxOf (CX1 P w) P w K mg base N qual scope f U A outer s₀ H₀ E).env= [(V7,eval aa (Vf qual scope s₀.heap.objs.size f U))]:=hs;rw [aw] at hp;rw [hs];refine Ua (vN hp (λvs s₂ h₂=> ?_) λ_ _ y=>y);erw[h₂,ws,H2,I2,r2,q2];erw[q2,hl,q2];have bk:=I2.bk;have ax:vs.length<=sizeLine:=by rw [<-r2.length,hl];decide
 refine⟨1,ax,bk _ _ hC,hN.keeps bk,T.keeps bk,λh' e ad=> ?_⟩;show V8 (Vq P w) (A.deeper (Vf qual scope s₀.heap.objs.size f U)) (Ta (Vf qual scope s₀.heap.objs.size f U) (.ref e)) (λ_ ag=>CX1 P w outer H₀ s₀ E (.ref e) ag) (λe' ag=>CX1 P w outer H₀ s₀ E e' ag) _;have ay:(A.deeper (Vf qual scope s₀.heap.objs.size f U)).frames=u_ (Vf qual scope s₀.heap.objs.size f U::outer):=I2.ok.frames;have ak:s₂.heap.FunFrames base (Vf qual scope s₀.heap.objs.size f U::outer):=I2.stack;have ah:∀b∈frs (Vf qual scope s₀.heap.objs.size f U::outer),H2 b=none:=I2.stkFree;have al:frs (Vf qual scope s₀.heap.objs.size f U::outer)=s₀.heap.objs.size::frs outer:=rfl;have ap:s₀.heap.objs.size<=s₀.heap.objs.size:=I2.ok.above;have O:Un (frs outer) [] H₀ H2 s₀.heap s₂.heap:=I2.base;refine wpAny_leaves_madeW (base:=TI.gone s₂.heap (frs (Vf qual scope s₀.heap.objs.size f U::outer))) (h:=s₂.heap) (L:=s₀.heap.objs.size) ay rfl (λb o e=>(TI.gone_some e).2) (funs_gone ak λb hb=>TI.gone_none hb) ad λam t af aB _ aA=> ?_;have ae:∀b o,b∉frs (Vf qual scope s₀.heap.objs.size f U::outer)->s₂.heap.get? b=u_ o->am.get? b=u_ o:=λb o hb e=>af.1 b o (by rwa [TI.gone_get hb])
 have slots:∀b o,s₂.heap.get? b=u_ o->(∀vs,o.data≠ .fields vs)->∃sl,am.get? b=u_ {o with slots:=sl}:=λb o e hn=>aA b o (ad.keeps b o e) hn
 have nd:∀b∈frs outer,∀o,s₂.heap.get? b=u_ o->∀vs,o.data≠ .fields vs:=λb hb o e=>by
  obtain⟨_,o',e',hn⟩:=ak.mem (show b∈(Vf qual scope s₀.heap.objs.size f U::outer).filterMap (·.frame) from by rw [show(Vf qual scope s₀.heap.objs.size f U::outer).filterMap (·.frame)=frs (Vf qual scope s₀.heap.objs.size f U::outer) from rfl,al];exact ue _ hb)
  rw [e] at e';cases e';exact hn
 have ac:∀b o,s₀.heap.get? b=u_ o->b∉frs outer->b∉frs (Vf qual scope s₀.heap.objs.size f U::outer):=λb o e hb hm=>by
  rw [al] at hm;rcases A8.mp hm with rfl|hm
  ·exact absurd (uA e) (vK _)
  ·exact hb hm
 refine⟨e,C,.ref t,H2,0,I2.os,I2.bare,(by first|exact I2.tk|exact Vm I2.tk (V1 _ _)|((try dsimp only);first|assumption|exact Inv.tk (by assumption)|exact HK _|exact Vm (Inv.tk (by assumption)) (by assumption)|exact Nat.add_pos_left (Inv.tk (by assumption)) _|omega)),⟨?_,?_,O.free,?_,O.tups,O.frzs,O.tbls⟩,?_,af,?_,q2 e⟩
 ·intro b o e1 hn hb hx;exact ae b o (ac b o e1 hb) (O.keep b o e1 hn hb hx)
 ·intro b o e1 hn hb hx;erw[O.slot b o e1 hn hb hx,sl,e2];erw[slots b _ e2 (nd b hb _ e2),ao,e3];exact[ao:e3]
 ·intro b o e1 hx;erw[O.there b o e1 hx,o',e2];by_cases hb:b∈frs outer
  ·erw[slots b _ e2 (nd b hb _ e2),ao,e3];exact[_:e3]
  ·exact[o':ae b o' (ac b o e1 hb) e2]
 ·intro b u hb;refine(I2.hok b u hb).stay (λc v hc q=> ?_) (λ_ q=>q) λ_ _ q=>q;rw [TI.gone_get]
  ·exact q
  ·intro hm;have hn:=ah c hm;rcases hc with z|z
   ·rw [z,hb] at hn;cases hn
   ·rw [z] at hn;cases hn
 ·intro b o e1 hb;obtain⟨o',e2⟩:=O.there b o e1 (by simp)
  exact⟨o',by rwa [TI.gone_get (ac b o e1 hb)]⟩
theorem Fun.okX {P:o9}{w:og}{K:o0}{mg:Str->om o6}{base:o8}{x qual:Str}{st:Stmt}{f:o3}{fd:Va}{N ps:oj Str}{k:Nat}{sp:Sp}(F:Fun K x qual st f fd)(S:qu N ps (qj st))(len:∀vs H Q E,sp vs H Q E->vs.length=ps.length)
  (O:∀(cdv:o6) (A:oh) (outer:oj Env) (s:o7) (H:Hp) (vs:oj V) (Q:VK) (E:XK),Room k (A.deeper (Vf qual (qj st) s.heap.objs.size f cdv))->sp vs H Q E->
   ∃t,PSs (cxOf (CX1 P w) P w K mg base N qual (qj st) f cdv A outer s H E) (yQ st) t/\t {nx:=λ_ H'=>Q .non H',rt:=Q} (Kn N vs) H):FnOk P w K mg base (CX1 P w) (k+1) f fd ps sp:=by
 erw[F.ex,oc,od,kV,doc,pm,an,cdv,ct,osl,rfl,lk,U];exact fn_of lk U S len λA outer s H vs Q E hr aa=>O cdv A outer s H vs Q E hr aa
end L2
namespace HT
open PySem PyProof.Rows
section
variable {prog:o9}{w:og}{A:oh}{E:o6->o7->Prop}{s:o7}
theorem getItem_tuple_all {t sl:o3}{items:Array o6}{vl vu:o6}{lo hi:om Int}{Q:o6->o7->Prop}(O:Gu s.heap t items)(hs:s.heap.IsSliceOf sl vl vu .none)(pl:VO vl lo)(pu:VO vu hi)
  (hw:sIx items.size 0 lo=0/\sIx items.size items.size hi=items.size) (h:Q (.ref t) s):V8 #[w,w] A (VI (.ref t) (.ref sl)) Q E s:=by
 erw[id hs,os,aa,ac,ae];have ad:s.TypeIs (.ref sl) "slice":=[os:aa:ac];unfold VI
 try with_reducible refine VF ?_
 first|refine A6 (uw ?_)|skip
 refine A6 (Rl O.typeIs () ?_)
 refine A6 (vF (name:=G9 "__getitem__") O.typeIs vI
  (vS vI O.typeIs FC ?_ (RM _ _)))
 show V8 _ _ (rO (.ref t)>>=_) _ _ s;refine A6 (TW O ?_);refine A6 (VZ ad ?_);rw [A5 ()]
 refine A6 (jW hs pl pu ?_);have U:((((sIx items.size 0 lo:Nat):Int)==0&&(1:Int)==1&&(sIx items.size items.size hi-sIx items.size 0 lo)==items.size)=v_):=by
  rw [hw.1,hw.2];simp
 show V8 _ _ (if(((sIx items.size 0 lo:Nat):Int)==0&&(1:Int)==1&&(sIx items.size items.size hi-sIx items.size 0 lo)==items.size)=v_ then _ else _) _ _ s
 rw [A5 U];unfold R_;refine A6 (A6 (VZ O.typeIs (uw ?_)));rw [A5 ()]
 exact A6 (UU (uw [0:uw h]))
end
end HT
namespace L2
open PySem PySem.Spec PyProof.Rows
section
variable {X:Cx}
inductive rSlG (K:PySem.W.Frag) (x:V) (lo:Option Int) (hi:Option Int) (H:Hp) (Q:VK):Prop
 |mk (a:_) (xs:_) (_:x= .ref a) (_:SqT K H a xs) (_:(HT.sIx xs.length 0 lo=0/\HT.sIx xs.length xs.length hi=xs.length->Q (.ref a) H)) (_:(¬(HT.sIx xs.length 0 lo=0/\HT.sIx xs.length xs.length hi=xs.length)->∀p,H p=U_->Q (.ref p) (upd H p (.tup (cutV xs lo hi)))))
theorem sl_tupG:SlR X (rSlG X.K):=by
 intro oq s σ H x v vl vu lo hi sl Q I rx hs pl pu h;erw[h,a,xs,rfl,hx,q1,q2];by_cases U:HT.sIx xs.length 0 lo=0/\HT.sIx xs.length xs.length hi=xs.length
 ·cases rx;erw[I.tuple hx,its,r,ht,hz];have O:its.toArray.size=xs.length:=by rw [uj];exact r.length.symm
  exists "tuple",_,PyProof.Rows.slot_tuple_getitem.lookup,ht.typeIs;exact HT.getItem_tuple_all ht hs pl pu (by rwa [O]) ⟨.ref a,H,I,1,q1 U⟩
 ·exact sl_tup oq s σ H (.ref a) v vl vu lo hi sl Q I rx hs pl pu ⟨a,xs,1,hx,U,q2 U⟩
end
noncomputable def y9 (n:Nat):Kd->Str->om Pt
 | .words,z=>u_ (.s z)
 | .box,z=>if z∈BX then u_ (.s z) else U_
 | .line,z=>((Vi n).find? λi:Nat=>decide ((Vh (1+(i:Int)):Str)=z)).map λi:Nat=> .n (1+(i:Int))
noncomputable def Yj (n:Nat):oj Kd->oj Str->om (oj Pt)
 | [],_=>u_ []
 |k::ks,z::zs=>match y9 n k z,Yj n ks zs with
  |some p,u_ ps=>u_ (p::ps)
  |_,_=>U_
 |_::_,[]=>U_
noncomputable def xl (w:Str):om (oj Kd):=(FRM.find? λx=>decide (x.1=w)).map (·.2)
noncomputable def pcs (ks:oj Kd)(z:Str):oj Str:=spl (if Kd.words∈ks then ks.length else z.length+1) z
noncomputable def wU (n:Nat)(z:Str):om Rw:=
 if Qp z=v_ then match xl (hd z) with
  |none=>U_
  |some ks=>if(pcs ks z).length=1+ks.length then(Yj n ks ((pcs ks z).drop 1)).map λl=>(hd z,l) else U_
 else U_
variable {ks:oj Kd}
theorem zm {w:Str}(h:xl w=u_ ks):(w,ks)∈FRM:=by
 unfold xl at h;cases e:FRM.find? λx=>decide (x.1=w) with
 |none=>rw [e] at h;cases h
 |some x=>
  rw [e] at h;have O:=Hs e;have hm:=U9 e;cases h;have:x.1=w:=um O;subst this;exact hm
theorem wK {w:Str}(h:xl w=U_):∀x∈FRM,x.1≠w:=by
 unfold xl at h;rw [Uo,U4] at h;intro x O e;exact h x O (ub e)
variable {n:Nat}{z:Str}
theorem partOf_ok {m:Nat}{k:Kd}{p:Pt}(U:z.length<=m)(ha:z.cps.toList.all QD=v_)(h:y9 n k z=u_ p):ptOk n m k p/\p.t=z:=by
 cases k with
 |words=>cases h;exact[[U:ha]:1]
 |box=>
  simp only [y9] at h;by_cases O:z∈BX
  ·rw [A5 O] at h;cases h;exact[O:1]
  ·rw [A4 O] at h;cases h
 |line=>
  simp only [y9] at h;cases e:(Vi n).find? λi:Nat=>decide ((Vh (1+(i:Int)):Str)=z) with
  |none=>rw [e] at h;cases h
  |some i=>
   rw [e] at h;cases h;have h1:=Hs e;have h2:=List.mem_range.mp (U9 e);exact[[():()]:um h1]
theorem W9 {n m:Nat}:∀{ks:oj Kd}{zs:oj Str}{ps:oj Pt},(∀z∈zs,z.length<=m/\z.cps.toList.all QD=v_)->zs.length=ks.length->Yj n ks zs=u_ ps->Xf n m ks ps/\ps.map Pt.t=zs
 | [],[],ps,_,_,h=>by cases h;exact[trivial:1]
 | [],_::_,_,_,hl,_=>by simp at hl
 |_::_,[],_,_,hl,_=>by simp at hl
 |k::ks,z::zs,ps,hz,hl,h=>by
  unfold Yj at h;split at h
  ·rename_i p qs h1 h2
   cases h;erw[partOf_ok (hz z uf).1 (hz z uf).2 h1,O,U];obtain⟨b1,b2⟩:=W9 (λy hy=>hz y (ue _ hy)) (by simpa using hl) h2
   exact⟨[O:b1],by rw [uq,U,b2]⟩
  ·cases h
noncomputable def Kj:oj (oj Nat)->oj Nat
 | []=> []
 | [x]=>x
 |x::y::r=>x++32::Kj (y::r)
theorem joinL_cons (x:oj Nat){q:oj (oj Nat)}(O:q≠ []):Kj (x::q)=x++32::Kj q:=by
 cases q with
 |nil=>exact absurd rfl O
 |cons y r=>rfl
theorem Kw:∀(n:Nat) (L:oj Nat),Kj (cutL 32 n L)=L
 |0,L=>by simp [cutL,Kj]
 |n+1,[]=>by simp [cutL,Kj]
 |n+1,a::r=>by
  by_cases h:a=32
  ·have O:=Kw n r;erw[JA 32 n r,p,q,e];rw [cutL,A5 h,joinL_cons [] (by rw [e];simp),O,h]
   rfl
  ·have O:=Kw (n+1) r;erw[JA 32 (n+1) r,p,q,e];rw [e] at O;simp only [cutL,A4 h,e];cases q with
   |nil=>simp only [Kj] at O⊢;rw [O]
   |cons y t=>
    simp only [Kj] at O⊢;rw [vT,O]
theorem join_ofL:∀l:oj (oj Nat),(Vg " " (l.map ofL)).cps.toList=Kj l
 | []=>rfl
 | [x]=>by show(ofL x).cps.toList=x;unfold ofL;simp
 |x::y::r=>by
  have O:=join_ofL (y::r);show(Vg " " (ofL x::ofL y::r.map ofL)).cps.toList=_;rw [Ji];have e:(ofL x).cps.toList=x:=by unfold ofL;simp
  rw [e];show x++32::(Vg " " ((y::r).map ofL)).cps.toList=_;rw [O]
  rfl
theorem spl_back (n:Nat)(z:Str):Vg " " (spl n z)=z:=by
 unfold spl;have h:=join_ofL (cutL 32 n z.cps.toList);rw [Kw] at h;rw [<-Q7 (Vg " " ((cutL 32 n z.cps.toList).map ofL)),h,Q7]
theorem cut_head:∀(n:Nat) (L:oj Nat),∃q,cutL 32 (n+1) L=xb 32 L::q
 |n,[]=>⟨[],by simp [cutL,xb]⟩
 |n,a::r=>by
  by_cases h:a=32
  ·exact⟨cutL 32 n r,by simp [cutL,xb,h]⟩
  ·erw[cut_head n r,q,e];exact⟨q,by simp only [cutL,A4 h,e,xb]⟩
theorem spl_head (n:Nat)(z:Str):∃q,spl (n+1) z=hd z::q:=by
 erw[cut_head n z.cps.toList,q,e];exact⟨q.map ofL,by unfold spl hd;rw [e];rfl⟩
theorem cut_sub:∀(n:Nat) (L:oj Nat),∀p∈cutL 32 n L,p.length<=L.length/\∀c∈p,c∈L
 |0,L=>λp O=>by
  simp [cutL] at O;subst O;exact[uh _:λc U=>U]
 |n+1,[]=>λp O=>by
  simp [cutL] at O;subst O;exact[uh _:λc U=>U]
 |n+1,a::r=>λp O=>by
  by_cases h:a=32
  ·rw [cutL,A5 h] at O;rcases A8.mp O with rfl|O
   ·exact⟨uN _,λc U=>by simp at U⟩
   ·erw[cut_sub n r p O,h1,h2];exact⟨by simp;omega,λc U=>ue _ (h2 c U)⟩
  ·erw[JA 32 (n+1) r,p0,q,e];have ih:=cut_sub (n+1) r;rw [e] at ih;simp only [cutL,A4 h,e] at O;rcases A8.mp O with rfl|O
   ·erw[ih p0 uf,h1,h2];refine⟨by simp;omega,λc U=> ?_⟩
    rcases A8.mp U with rfl|U
    ·exact uf
    ·exact ue _ (h2 c U)
   ·erw[ih p (ue _ O),h1,h2];exact⟨by simp;omega,λc U=>ue _ (h2 c U)⟩
theorem spl_ok {m:Nat}(hz:z.length<=m)(ha:z.cps.toList.all QD=v_):∀p∈spl n z,p.length<=m/\p.cps.toList.all QD=true:=by
 intro p O;erw[Ab.mp O,q,U,rfl];erw[cut_sub n z.cps.toList q U,h1,h2];have e:(ofL q).cps.toList=q:=by unfold ofL;simp
 refine[?_:?_]
 ·have:(ofL q).length=q.length:=by unfold ofL VV;simp
  rw [this];have:z.cps.toList.length=z.length:=by simp [VV]
  omega
 ·rw [e,Uj];intro c hc;exact List.all_eq_true.mp ha c (h2 c hc)
variable {r:Rw}
theorem rowOf_ok (h:wU n z=u_ r):j7 n 300 r/\Yb r=z:=by
 unfold wU at h;split at h
 ·rename_i ht
  have O:=ht;unfold Qp at O;rw [ur,uH] at O;split at h
  ·cases h
  ·rename_i ks hk
   split at h
   ·rename_i hl
    cases e:Yj n ks ((pcs ks z).drop 1) with
    |none=>rw [e] at h;cases h
    |some l=>
     rw [e] at h;cases h;have hm:=zm hk;have U:∀p∈(pcs ks z).drop 1,p.length<=300/\p.cps.toList.all QD=true:=λp hp=>spl_ok O.1 O.2 p (rG hp);obtain⟨a1,a2⟩:=W9 U (by rw [vY,hl];omega) e
     exists [ks:hm:a1];have aa:∃j,(if Kd.words∈ks then ks.length else z.length+1)=j+1:=by
      split
      ·rename_i hw
       exact⟨ks.length-1,by have:=List.length_pos_iff.mpr (λe=>by rw [e] at hw;simp at hw:ks≠ []);omega⟩
      ·exact[z.length:1]
     erw[aa,j,hj];erw[spl_head j z,q,hq];have hp:pcs ks z=hd z::q:=by unfold pcs;rwa [hj]
     have hb:Vg " " (pcs ks z)=z:=spl_back _ z;show Vg " " (hd z::l.map Pt.t)=z;rw [a2];rw [hp] at hb⊢;exact hb
   ·cases h
 ·cases h
section
variable {X:Cx}{oq:oj (o3×Obj)}{σ:St}{H:Hp}{s:o7}
theorem vals_refs:∀{cs:oj o3}{its:oj o6},Vals (cs.map V.ref) its->its=cs.map Ve
 | [],_,h=>by cases h;rfl
 |c::cs,_,h=>by
  cases h with
  |cons O U=>
   rw [vals_refs U,show _=Ve c from O]
   rfl
end
section
variable {X:Cx}
theorem Jk:∀{ls:oj Str}{its:oj o6},Vals (ls.map V.str) its->He its ls
 | [],_,h=>by cases h;exact .nil
 |z::ls,_,h=>by
  cases h with
  |cons O U=>
   erw[O,t,e];rw [e];exact .cons z t (Jk U)
theorem Jp:∀{ls:oj Str}{its:oj o6},He its ls->Vals (ls.map V.str) its
 |_,_,.nil=> .nil
 |_,_,.cons x t h=> .cons [t:1] (Jp h)
theorem XD:∀{xs:oj V}{us:oj o6},xs.length=us.length->(∀(j:Nat) (x:V) (v:o6),xs[j]? =u_ x->us[j]? =u_ v->RelV x v)->Vals xs us
 | [],[],_,_=> .nil
 |x::xs,u::us,hl,h=> .cons (h 0 x u rfl rfl) (XD (by simpa using hl) λj y v h1 h2=>h (j+1) y v (by simpa using h1) (by simpa using h2))
 | [],_::_,hl,_=>by simp at hl
 |_::_,[],hl,_=>by simp at hl
theorem call_sortedD (hc:X.calm=v_):Ye X (.builtin "sorted") (λxs H Q=>∃(d:o3) (kvs:oj (Key×V)) (ls:oj Str),xs= [.ref d]/\H d=u_ (.dK kvs)/\kvs.map (·.1)=ls.map V9/\ls.length<64/\∀(ms:oj Str) (q:o3),ms.Perm ls->Go ms=v_->H q=U_->Q (.ref q) (upd H q (.lst (ms.map V.str)))):=by
 intro oq s σ H xs us Q I r h;erw[h,d,kvs,ls,rfl,hd,hk,am,q];erw[jH r,u,rfl,ru];cases ru;erw[dk_of I.hok hd,hz,lo,vs,ae,dd];erw[id dd,o,es,ep,ho];have af:s.heap.DictAt (Qa X.prog X.w) d vs ep:=[o:es:ho];have aa:vs.length=ls.length:=by
  have h1:=congrArg Vz hk;rw [ua,ua] at h1;rw [<-ae.length,h1]
 refine uS (n:=1) I.tk ?_;refine PySem.Calls.call_function_entry TU TM Rp (Fj _) ?_;unfold Ge.«sorted»;refine A6 (m:=checkCount "sorted" 1 1 _) (uw ?_);refine A6 (PySem.W.kdu_collect (A:=X.A.in1) (PySem.W.kdl_dict lo) (I.ok.hd hc) af (by rw [aa,uB];omega) λh' tk U ag O=> ?_)
 have hS:He U.toList ls:=by
  refine Jk (XD (by rw [ua,uU];exact aa.symm.trans O.1.symm) λj x v hx hv=> ?_)
  rw [uE] at hx;cases ac:ls[j]? with
  |none=>rw [ac] at hx;cases hx
  |some z=>
   rw [ac] at hx;cases hx;obtain⟨k,y,e1,e2⟩:=O.2 j v (by rwa [<-U1])
   have e3:(kvs.map (·.1))[j]? =u_ k:=by
    rw [ae.keys,uE,e1]
    rfl
   rw [hk,uE,ac] at e3;cases e3;rcases Ql (show KF (V9 z) v=v_ from e2) with⟨i,t,e4,e5⟩|⟨z',t,e4,e5⟩
   ·cases e4
   ·cases e4;exact[t:e5]
 have ah:U.toList.length=ls.length:=by rw [uU,O.1,aa]
 refine A6 (Hu ?_ (by rw [ah,uB];omega))
 have ad:(h'.push (hZ "list" U.toList.toArray 0)).get? h'.objs.size=u_ (hZ "list" U.toList.toArray 0):=uC _ rfl;refine A6 (VF (vS rN [_:ad:1] rg (TB RT ad hS.keysOf (λv₁ v₂ rest e=>rV (by rwa [<-e])) () λak a1 a2=>[0:?_]) (Ri _)))
 refine uw [0:?_];erw[RA hS a1 a2,ms,b1,b2,b3];erw[Fi (out:=(arrOf ak).map (·.2)) ad,e,he];have al:ms.length=ls.length:=b2.length_eq;intro htk;have I':Inv X oq σ H {s with heap:=h',toks:=tk}:=I.kept ag
 refine⟨.ref h'.objs.size,_,I'.laid (t':=tk) (o:= .lst (ms.map V.str)) (λb u w=> ?_) (uh _) ⟨?_,_,e,Jp b1,he⟩,1,q ms _ b2 b3 (I'.hok.fresh (uh _))⟩
 ·have hb:=uA w;rw [Rj (uL hb) (by rw [size_push'];exact TV hb)]
  exact ud _ w
 ·rw [ua,al,uB];omega
noncomputable def Itd (d:o3)(o:Obj):It:=
 ⟨λi H=>∃kvs,H d=u_ (.frz o (.dK kvs))/\i<kvs.length,λi H x H'=>H'=H/\∀kvs,H d=u_ (.frz o (.dK kvs))->(kvs.map λp=>kV p.1)[i]? =u_ x,λi H=>∃kvs,H d=u_ (.frz o (.dK kvs))/\kvs.length<=i⟩
variable {w:og}
theorem pairs_len {P:o9}{es:oj GF}{kvs:oj (Key×o6)}(h:Pairs (Qa P w) es kvs):es.length=kvs.length:=h.length
variable {H:Hp}{h:o8}{o:Obj}{es:Array GF}
theorem frz_at {P:o9}{d:o3}{kvs:oj (Key×V)}{ep:Nat}(ok:HOk P w H h)(e:H d=u_ (.frz o (.dK kvs)))(hd:o.data= .dict es ep):
  (d==Vu)=V7/\∃vs,KV kvs vs/\h.DictAt (Qa P w) d vs ep/\vs.length=es.size/\kvs.length<=sizeLine:=by
 obtain⟨U,hz,lo,vs,r,o',aa,ac,O,c1,c2,c3,c4,c5⟩:=(show yr P w H h d (.frz o (.dK kvs)) from ok d _ e)
 rw [U] at O;cases O;rw [hd] at c2;cases c2;exact⟨lo,vs,r,⟨o,es,U,c1,hd,c3,c4,c5⟩,by rw [<-uU];exact(pairs_len c4).symm,hz⟩
theorem kV_rel {k:Key}{v:o6}(h:KF k v=v_):RelV (kV k) v:=by
 rcases Ql h with⟨i,t,rfl,rfl⟩|⟨z,t,rfl,rfl⟩
 ·exact[t:1]
 ·exact[t:1]
variable {K:o0}{tg:Expr}
theorem turn_dict {P:o9}(d it:o3){ep:Nat}(hd:o.data= .dict es ep):Turn P w K tg (Itd d o) [it] it (λi h=>h.IsKeyIter it d i es.size ep) where
 mem:=by simp
 obj:=λi h st b O=>by
  have e:b=it:=by simpa using O
  subst e;erw[st,o,e,c,d];exact⟨o,e,λv z=>by rw [d] at z;cases z⟩
 keep:=λi h h' st k=>by
  erw[st,o,e,c,dd];exact⟨o,k it (by simp) o e,c,dd⟩
 item:=by
  intro X hP hw hK hc i oq s σ H E I hf st hg;subst hP hw hK;erw[hg,kvs,hq,hx];erw[frz_at I.hok hq hd,lo,vs,r,dat,hl,_];have ad:=r.length;obtain⟨f0,f1,f2,f3,f4,f5⟩:=hf it (by simp)
  obtain⟨⟨k,v⟩,U⟩:∃p,vs[i]? =u_ p:=[_:ug ()]
  refine wpAny_pyNext_dict_item (by rwa [hl]) dat U λae h' hk aa sb=> ?_
  have I1:Inv X oq σ H {s with heap:=h'}:=I.turned (t':=s.toks) (λb o O e=>(sb.2 b O).trans e) f0 f1 f3 f4 f5
  erw[id aa,oi,e,c,di];refine⟨ae,1,go_of (s:={s with heap:=h'}) e c di () ⟨kV k,H,I1,kV_rel hk,[1:λaf ac=> ?_],by rw [<-hl];exact aa,λb O=>(hf b O).1⟩⟩
  rw [hq] at ac;cases ac;have e3:(kvs.map (·.1))[i]? =u_ k:=by
   rw [r.keys,uE,U]
   rfl
  rw [uE] at e3⊢;cases h4:kvs[i]? with
  |none=>rw [h4] at e3;cases e3
  |some p=>
   rw [h4] at e3;cases e3
   rfl
 done:=by
  intro X hP hw hK hc i oq s σ H E I hf st hg;subst hP hw hK;erw[hg,kvs,hq,hx];erw[frz_at I.hok hq hd,lo,vs,r,dat,hl,_];have ad:=r.length;obtain⟨f0,f1,f2,f3,f4,f5⟩:=hf it (by simp)
  exact wpAny_pyNext_dict_end (I.ok.hd hc) (by rwa [hl]) dat (re ()) λh' eb=>[1:I.turned (t':=s.toks) (λb o O e=>eb b o O e) f0 f1 f3 f4 f5]
 self:=λ_ _ _ _ _ st h=>wpAny_pyIter_keyiter st h
noncomputable def iDicF (tl:TE):TI:=λσ H R=>tl σ H λx H1=>∃d o kvs,x= .ref d/\H1 d=u_ (.frz o (.dK kvs))/\R (Itd d o) H1
theorem Ke {tg l:Expr}{tl:TE}(hl:PE X l tl):PI X tg l (iDicF tl):=by
 intro oq s σ H R I h;refine thn (hl oq s σ H _ I h) λv s1 zq=> ?_;erw[zq,x,H1,O,r1,q1];erw[q1,d,o,kvs,rfl,hq,q];cases r1;obtain⟨ho,_,lo,vs,r,o',es,ep,U,c1,c2,_⟩:=(show yr X.prog X.w H1 s1.heap d (.frz o (.dK kvs)) from O.hok d _ hq)
 rw [ho] at U;cases U;erw[frz_at O.hok hq c2,lo,vs,r,dat,hl,_];refine wpAny_pyIter_dict lo dat ?_;refine⟨s1.heap.objs.size,[s1.heap.objs.size],_,_,H1,1,O.kept (t':=s1.toks) λb o e=>ud _ e,turn_dict d _ c2,⟨_,uC _ rfl,1,by rw [hl];rfl⟩,λb hb=> ?_,q⟩
 have e:b=s1.heap.objs.size:=by simpa using hb
 subst e;exact O.fpOk (uh _) (O.hok.fresh (uh _))
end
end L2
namespace PySem.AwK
open PySem Builtin Builtin.ObjectAttr
theorem lk_keys:GE (.type "list") "keys"=pure none:=by rw [Hx,Ux];kernel_rfl
section
variable {prog:o9}{w:og}{A:oh}{E:o6->o7->Prop}{s:o7}
theorem KJ:isSubtype (.type "AttributeError") (.type "AttributeError")=pure true:=by rw [Tw];kernel_rfl
theorem raise_attr {α:Type}{o:o6}{name O:Str}{Q:α->o7->Prop}(hh:A.handled=U_)(hm:O.length<=Vb)
  (hq:∀h' ac e,(∀b ob,s.heap.get? b=u_ ob->h'.get? b=u_ ob)->(∃oe,h'.get? e=u_ oe/\oe.cls= .type "AttributeError")->E (.ref e) {s with heap:=h',toks:=ac}):
  V8 #[w,w] A (Tu o name O:Sem α) Q E s:=by
 unfold Tu;refine A6 (wpAny_mkStr (A6 ?_) hm);unfold newExc newTuple;refine A6 (vw ?_ (by show(1:Nat)<=Vb;rw [uB];decide))
 refine A6 (m:=HR _ _) (Tt (a:=VP) (by kernel_rfl) ?_)
 obtain⟨h1,aa⟩:∃h1,h1=s.heap.push {cls:= .type "tuple",data:= .seq #[VC O s.toks]}:=⟨0⟩;have k1:∀b ob,s.heap.get? b=u_ ob->h1.get? b=u_ ob:=λb ob e=>by rw [aa];exact ud _ e
 show V8 #[w,w] A (newObj (.type "AttributeError") (.fields #[.ref s.heap.objs.size,.none,.none,.none,.bool V7,.none,VR,VR])) _ E {s with heap:=s.heap.push {cls:= .type "tuple",data:= .seq #[VC O s.toks]},toks:=s.toks+1}
 rw [<-aa];refine vw ?_ (by unfold sizeOk;first|trivial|(rw [uB];simp)|decide)
 obtain⟨h2,U⟩:∃h2,h2=h1.push {cls:= .type "AttributeError",data:= .fields #[.ref s.heap.objs.size,.none,.none,.none,.bool V7,.none,VR,VR]}:=⟨0⟩;have k2:∀b ob,h1.get? b=u_ ob->h2.get? b=u_ ob:=λb ob e=>by rw [U];exact ud _ e
 have e2:h2.get? h1.objs.size=u_ {cls:= .type "AttributeError",data:= .fields #[.ref s.heap.objs.size,.none,.none,.none,.bool V7,.none,VR,VR]}:=by rw [U];exact uC _ rfl
 show V8 #[w,w] A (do let x<-mkText name;noteAttr (.ref h1.objs.size) o x;raiseNew (.ref h1.objs.size)) Q E {s with heap:=h1.push {cls:= .type "AttributeError",data:= .fields #[.ref s.heap.objs.size,.none,.none,.none,.bool V7,.none,VR,VR]},toks:=s.toks+1}
 rw [<-U];have ne:∀b ob,h1.get? b=u_ ob->b≠h1.objs.size:=λb ob e=>uL (uA e);generalize h1.objs.size=e at e2 ne⊢;refine A6 (Rb (A6 ?_));have hT:∀g d t os,(⟨h2,g,d,t,os⟩:o7).TypeIs (.ref e) "AttributeError":=λ_ _ _ _=>[_:e2:1];unfold noteAttr lacksNameAndObj;refine A6 (A6 (UE (hT _ _ _ _) KJ ?_));simp only [Bool.not_true,UO,if_false];refine A6 (GZ e2 ?_);dsimp only;rw [A4 (by simp [VR,VX]),A4 (by simp [VR,doubtfulMember,VX])]
 refine uw ?_;rw [A5 rfl];refine A6 (UU (A6 (VZ (hT _ _ _ _) ?_)));show V8 #[w,w] A (layMembers e 6 #[VC name (s.toks+1),o]) _ E _;unfold layMembers;refine A6 (GZ e2 ?_);dsimp only;refine wpAny_update e2 ?_;have e3:=Hv (rM λvs=>vs.extract 0 6++ #[VC name (s.toks+1),o]) e2 rfl;have k3:∀b ob,b≠e->h2.get? b=u_ ob->(h2.update e (rM λvs=>vs.extract 0 6++ #[VC name (s.toks+1),o])).get? b=u_ ob:=λb ob hb q=>(Uk _ _ (Uv hb)).trans q;exact wpAny_raiseNew_none hh (hq _ _ e (λb ob q=>k3 b ob (ne b ob (k1 b ob q)) (k2 b ob (k1 b ob q))) [_:e3:1])
end
section
variable {prog:o9}{w:og}{A:oh}{E:o6->o7->Prop}{h:o8}{g:Array tL}{d:Drawn}{t:Nat}{os:OsState}{a:o3}{its:Array o6}{n:Nat}{sl:Array (om o6)}
theorem nk_entry {tk:Tok}{Q:Fin->o7->Prop}(hh:A.handled=U_)(hx:h.get? a=u_ {cls:= .type "list",dict:=U_,data:= .seq its n,slots:=sl})
  (hq:∀h' O e,(∀b ob,h.get? b=u_ ob->h'.get? b=u_ ob)->(∃U,h'.get? e=u_ U/\U.cls= .type "AttributeError")->E (.ref e) ⟨h',g,d,O,os⟩):
  V8 #[w,w] A (Ge.«object.__getattribute__» [[.ref a,.str "keys" tk]:[]]) Q E ⟨h,g,d,t,os⟩:=by
 have hT:(⟨h,g,d,t,os⟩:o7).TypeIs (.ref a) "list":=[_:hx:1];have f4:=lk_keys
 repeat (any_goals (first|assumption|wp_step))
 exact raise_attr hh (by rw [uB];decide+kernel) hq
theorem nk_call {tk:Tok}{R:gX->o7->Prop}(hh:A.handled=U_)(U:h.get? a=u_ {cls:= .type "list",dict:=U_,data:= .seq its n,slots:=sl})
  (hq:∀h' O e,(∀b ob,h.get? b=u_ ob->h'.get? b=u_ ob)->(∃oe,h'.get? e=u_ oe/\oe.cls= .type "AttributeError")->R (.error (.ref e)) ⟨h',g,d,O,os⟩):
  VD #[w,w] A (.call (.builtin "list.__getattribute__") [[.ref a,.str "keys" tk]:[]]) R ⟨h,g,d,t,os⟩:=
 codeAny_call_builtin F.slot_list_getattribute.plain F.entry_list_ga (F.slot_list_getattribute.check _ _ _ _ _ _ _ _ (show(⟨h,g,d,t,os⟩:o7).TypeIs (.ref a) "list" from[_:U:1]) (F.args_list_getattribute_2 _ _) (nk_entry hh U hq))
theorem no_keys {Q:om o6->o7->Prop}(hh:A.handled=U_)(U:h.get? a=u_ {cls:= .type "list",dict:=U_,data:= .seq its n,slots:=sl})
  (hq:∀h' O,(∀b ob,h.get? b=u_ ob->h'.get? b=u_ ob)->Q U_ ⟨h',g,d,O,os⟩):V8 #[w,w] A (getAttr? (.ref a) "keys") Q E ⟨h,g,d,t,os⟩:=by
 have hT:∀t,(⟨h,g,d,t,os⟩:o7).TypeIs (.ref a) "list":=λt=>[_:U:1];unfold getAttr? getAttrBy?;refine A6 (Rb (A6 (Hj ?_)));unfold getAttrBy;refine VF (A6 (VZ (hT _) ?_));rw [F.slot_list_getattribute.lookup];refine A6 (uw ?_);show V8 #[w,w] A (RC (.ref a) _ (.type "list") (.builtin "list.__getattribute__") V7 V7) _ _ _;unfold RC;refine A6 (m:=hookBefore _) (uw ?_);refine A6 (Hj (VF ?_));show V8 #[w,w] A (Fu (.builtin "list.__getattribute__") (.ref a) _) _ _ _;unfold Fu;rw [F.slot_list_getattribute.bind];refine A6 (uw (T0 (nk_call hh U λh' O e k zq=> ?_)));erw[zq,oe,e1,e2];have hE:∀t,(⟨h',g,d,t,os⟩:o7).TypeIs (.ref e) "AttributeError":=λt=>[_:e1:e2];show V8 #[w,w] A (RG (.ref a) _ (.type "list") (.ref e) U_ V7 V7) _ _ ⟨h',g,d,O,os⟩;unfold RG;refine A6 (UE (hE _) KJ ?_);rw [A5 rfl];have lg:hookBehind (.type "list") U_=pure none:=by
  show GE (.type "list") "__getattr__"=pure U_;rw [Hx,Ux]
  kernel_rfl
 rw [lg];refine A6 (uw ?_);show V8 #[w,w] A (Rh (.ref a) _ (.ref e) V7 V7) _ _ _;unfold Rh;refine Ro ?_;refine A6 (UE (hE _) KJ ?_);rw [A5 rfl];exact uw (hq h' O k)
end
theorem W0:entryFor table "dict.update.loop"=u_ Ge.«dict.update.loop»:=entryFor_of_fast (by kernel_rfl)
theorem JZ:plainId "dict.update.loop"=true:=by decide+kernel
section
variable {prog:o9}{w:og}{A:oh}{E:o6->o7->Prop}{K:Type}[DecidableEq K]{knd:KeyKind prog w K}
noncomputable def addAll (cur:oj (K×o6)):oj (K×o6)->oj (K×o6)
 | []=>cur
 |p::r=>addAll (G7 cur p.1 p.2) r
structure PairAt (h:o8)(d it:o3)(v:o6)(p:K×o6):Prop where
 at_:∃(t:o3) (o:Obj) (k:o6) (n:Nat),v= .ref t/\t≠d/\t≠it/\h.get? t=u_ o/\o.cls= .type "tuple"/\o.data= .seq #[k,p.2] n/\knd.is p.1 k=v_
theorem pairs_loop (hh:A.handled=U_){d it l:o3}{items:Array o6}{ps:oj (K×o6)}{R:gX->o7->Prop}(au:d≠l)(aw:it≠l)(ac:d≠it)(hn:items.size=ps.length)(hz:2*ps.length<=Vb)(res:o6):
  ∀(m i:Nat) (s:o7) (O:oj (K×o6)),i+m=ps.length->s.heap.IsListIter it l i->s.heap.IsList l items->s.heap.DictOf knd d O->O.length<=i->
  (∀(j:Nat) (v:o6) (p:K×o6),items[j]? =u_ v->ps[j]? =u_ p->PairAt (knd:=knd) s.heap d it v p)->
  (∀h' ad,h'.DictOf knd d (addAll O (ps.drop i))->(∀b o,b≠d->b≠it->s.heap.get? b=u_ o->h'.get? b=u_ o)->R (.ok (.ret res)) {s with heap:=h',toks:=ad})->
  VD #[w,w] A (.builtin "dict.update.loop" [[.ref d,.ref it,VX i,res]:[]]) R s:=by
 intro m
 induction m with
 |zero=>
  intro i s O hm ae hl hd hc hp hR;refine T7 W0 ?_;rw [Tl JZ _];show V8 _ A.in1 (VY (.ref it)>>=_) _ _ s;refine A6 (R6 (A:=A.in1) hh ae hl (by rw [Array.getElem?_eq_none ()]) λh' eb=> ?_)
  have af:h'.DictOf knd d O:=by
   erw[hd,o,es,ep,ho,r];exact⟨o,es,ep,eb d o ac ho,r⟩
  have:=hR h' s.toks (by rwa [List.drop_eq_nil_of_le ()]) λb o aa U e=>eb b o U e
  show V8 #[w,w] A.in1 (Dict.addKeywords d []>>=λ_=>ret res) _ _ _;refine A6 (m:=Dict.addKeywords d []) (uw ?_);exact uw this
 |succ m ih=>
  intro i s O hm ae hl hd hc hp hR;refine T7 W0 ?_;rw [Tl JZ _];have hi:i<items.size:=by omega
  have ah:i<ps.length:=by omega
  have hx:items[i]? =u_ items[i]:=Array.getElem?_eq_getElem hi;have ax:ps[i]? =u_ ps[i]:=ug ah;erw[(hp i _ _ hx ax).at_,t,o,k,n,ev,aE,ay,ho,aA,aB,hk];rw [ev] at hx;show V8 _ A.in1 (VY (.ref it)>>=_) _ _ s;refine A6 (FO (A:=A.in1) ae hl hx λh1 ak ag=> ?_);have al:h1.get? t=u_ o:=(ag.2 t ay).trans ho;have hT:(({s with heap:=h1}:o7)).TypeIs (.ref t) "tuple":=[_:al:aA]
  have am:h1.DictOf knd d O:=hd.sameBut ag ac;dsimp only;refine A6 (VF (A6 (wpAny_tryCatch ?_)));unfold Dict.pairItems;refine A6 (VZ hT ?_);rw [A5 ()]
  refine A6 ?_;unfold Tq;refine A6 (GZ al ?_);rw [aB];refine uw (uw ?_);show V8 #[w,w] A.in1 (gV [k,ps[i].2] (dictSet d k ps[i].2)) _ _ _;refine VF (wpAny_dictSet_pairs hk am (λh2 aC ao=> ?_) ())
  have ap:h2.IsListIter it l (i+1):=by
   erw[ak,oi,e,c];exact[oi:(ao.2 it (Uv ac)).trans e:c]
  have keep:∀b ob,b≠d->b≠it->s.heap.get? b=u_ ob->h2.get? b=u_ ob:=λb ob aa U e=>(ao.2 b aa).trans ((ag.2 b U).trans e);have aD:h2.IsList l items:=by
   erw[hl,ol,e,c];exact[ol:keep l ol (Uv au) (Uv aw) e:c]
  refine uw [Hd JZ _:?_];have aq:(G7 O ps[i].1 ps[i].2).length<=i+1:=by
   unfold G7;split
   ·rw [ua];omega
   ·rw [uu];show O.length+1<=i+1;omega
  refine ih (i+1) _ _ () ap aD aC aq (λj v p h1 h2=> ?_) λh' ad af kp=> ?_
  ·erw[(hp j v p h1 h2).at_,t',o',k',n',e1,e2,e3,e4,e5];exact⟨⟨t',o',k',n',e1,e2,e3,keep t' o' e2 e3 e4,e5⟩⟩
  ·refine hR h' ad ?_ λb ob aa U e=>kp b ob aa U (keep b ob aa U e);rw [vk ah];exact af
theorem dict_pairs (hh:A.handled=U_){s:o7}{l:o3}{items:Array o6}{n:Nat}{sl:Array (om o6)}{ps:oj (K×o6)}{Q:o6->o7->Prop}(hl:s.heap.get? l=u_ {cls:= .type "list",dict:=U_,data:= .seq items n,slots:=sl})(hn:items.size=ps.length)(hz:2*ps.length<=Vb)
  (hp:∀(j:Nat) (v:o6) (p:K×o6),items[j]? =u_ v->ps[j]? =u_ p->∃(t:o3) (o:Obj) (k:o6) (n:Nat),v= .ref t/\s.heap.get? t=u_ o/\o.cls= .type "tuple"/\o.data= .seq #[k,p.2] n/\knd.is p.1 k=v_)
  (hQ:∀h' ac,h'.DictOf knd s.heap.objs.size (addAll [] ps)->(∀b o,s.heap.get? b=u_ o->h'.get? b=u_ o)->Q (.ref s.heap.objs.size) {s with heap:=h',toks:=ac}):
  V8 #[w,w] A (call (.type "dict") [.ref l]) Q E s:=by
 refine tj (Q₁:=λobj s₁=>obj= .ref s.heap.objs.size/\s₁={s with heap:=s.heap.push {cls:= .type "dict",data:= .dict #[]}}) F.kt_called_dict (F.kt_typeCall_dict_1 _) F.entry_dict_init (kt_code_dict_new _ [1:1]) ?_
 rintro obj s₁ ⟨rfl,rfl⟩;have U:(s.heap.push {cls:= .type "dict",data:= .dict #[]}).DictOf knd s.heap.objs.size []:=Fc s.heap;exists U.typeIs,F.args_dict_init_2 _ _;unfold Ge.«dict.__init__»;refine A6 ?_;unfold RZ;refine A6 (wpAny_notOrdered_dict U.typeIs ?_);refine(show V8 _ _ (pure (s.heap.objs.size,[Ve l])) _ _ _ from ?_)
 refine uw ?_;refine(show V8 _ _ (RJ "dict.__init__" s.heap.objs.size (.ref l) [] .none) _ _ _ from ?_)
 unfold RJ;have aa:(s.heap.push {cls:= .type "dict",data:= .dict #[]}).get? l=u_ {cls:= .type "list",dict:=U_,data:= .seq items n,slots:=sl}:=ud _ hl;refine A6 (VZ (T:="list") [_:aa:1] ?_);rw [A5 ()]
 refine A6 (no_keys (A:=A.in1.in1) hh aa λh2 am k2=> ?_);rw [A5 (show(U_:om o6).isNone=v_ from rfl)]
 have ad:l<s.heap.objs.size:=uA hl;have af:h2.IsList l items:=⟨_,k2 _ _ aa,1,n,1⟩;refine A6 (UU (A6 (UT af ?_)));have ae:h2.DictOf knd s.heap.objs.size []:=by
  erw[U,o,es,ep,ho,r];exact⟨o,es,ep,k2 _ _ ho,r⟩
 have O:s.heap.objs.size<h2.objs.size:=by
  erw[ae,o,es,ep,ho,r];exact uA ho
 have k1:∀b o,s.heap.get? b=u_ o->h2.get? b=u_ o:=λb o e=>k2 b o (ud _ e);have k3:∀b o,h2.get? b=u_ o->(h2.push {cls:= .type "list_iterator",data:= .fields #[.ref l,.int 0 0]}).get? b=u_ o:=λb o e=>ud _ e;have ag:(h2.push {cls:= .type "list_iterator",data:= .fields #[.ref l,.int 0 0]}).IsList l items:=⟨_,k3 _ _ (k2 _ _ aa),1,n,1⟩;have ah:(h2.push {cls:= .type "list_iterator",data:= .fields #[.ref l,.int 0 0]}).DictOf knd s.heap.objs.size []:=ae.push _;refine uw [Hd JZ _:pairs_loop (A:=A.in1) hh (d:=s.heap.objs.size) (it:=h2.objs.size) (l:=l) (items:=items) (ps:=ps) (vU ad) (vU (Hb ad O)) (uL O) hn hz .none ps.length 0 _ [] () ⟨_,uC _ rfl,1,1⟩ ag ah (uh _) (λj v p h1 ak=> ?_) λh' ac al kp=> ?_]
 ·erw[hp j v p h1 ak,t,o,k,n',e1,e2,e3,e4,e5];have ht:=uA e2;exact⟨⟨t,o,k,n',e1,uL ht,uL (Hb ht O),k3 _ _ (k1 _ _ e2),e3,e4,e5⟩⟩
 ·refine[1:hQ h' ac al λb o e=> ?_];have hb:=uA e;exact kp b o (uL hb) (uL (Hb hb O)) (k3 _ _ (k1 _ _ e))
end
end PySem.AwK
namespace L2
open PySem PySem.Spec PyProof.Rows
section
variable {X:Cx}
noncomputable def inrK (ps:oj (Str×V)):oj (Key×V):=ps.map λp=>(V9 p.1,p.2)
theorem wg (ps:oj (Str×V)):(inrK ps).map (·.1)=(ps.map (·.1)).map Sum.inr:=by
 unfold inrK;rw [uK,uK]
 rfl
theorem stored_new {kvs:oj (Key×o6)}{k:Key}{v:o6}(h:k∉kvs.map (·.1)):G7 kvs k v=kvs++ [(k,v)]:=by
 unfold G7;rw [A4];intro q;erw[List.any_eq_true.mp q,p,O,e];exact h (Ab.mpr [p:O:um e])
theorem WU:∀{ps O:oj (Key×o6)},((O++ps).map (·.1)).Nodup->AwK.addAll O ps=O++ps
 | [],O,_=>(uW O).symm
 |p::r,O,h=>by
  unfold AwK.addAll;have U:p.1∉O.map (·.1):=by
   rw [Vc,uq] at h;intro q;exact(List.nodup_append.mp h).2.2 _ q _ uf rfl
  rw [stored_new U,WU (by rw [Ud];exact h),Ud]
  rfl
theorem pairs_are {P:o9}{w:og}{H:Hp}{h:o8}(ok:HOk P w H h):∀{ts:oj o3}{ps:oj (Str×V)},ts.length=ps.length->(∀(i:Nat) (t:o3) (p:Str×V),ts[i]? =u_ t->ps[i]? =u_ p->H t=u_ (.tup [.str p.1,p.2]))->
  ∃pv:oj (Key×o6),KV (inrK ps) pv/\∀(j:Nat) (v:o6) (p:Key×o6),(ts.map Ve)[j]? =u_ v->pv[j]? =u_ p->∃(t:o3) (o:Obj) (k:o6) (n:Nat),v= .ref t/\h.get? t=u_ o/\o.cls= .type "tuple"/\o.data= .seq #[k,p.2] n/\(Qa P w).is p.1 k=v_
 | [],[],_,_=>⟨[],.nil,λj v p e=>by simp at e⟩
 |t::ts,p::ps,hl,hp=>by
  obtain⟨pv,h1,h2⟩:=pairs_are ok (ts:=ts) (ps:=ps) (by simpa using hl) λi t' p' O U=>hp (i+1) t' p' (by simpa using O) (by simpa using U)
  obtain⟨_,its,rv,o,ho,hc,n,hd⟩:=(show yr P w H h t (.tup [.str p.1,p.2]) from ok t _ (hp 0 t p rfl rfl))
  cases rv with
  |cons r1 rv=>
  cases rv with
  |cons r2 rv=>
  cases rv with
  |nil=>
  erw[r1,tk,rfl]
  rename_i u
  refine[(V9 p.1,u)::pv:.cons [1:r2] h1:λj v q O U=> ?_];cases j with
  |zero=>
   simp only [uq,List.getElem?_cons_zero,pO] at O U;subst O U;exact⟨t,o,_,n,1,ho,hc,hd,ZF _ _ _ _⟩
  |succ j=>exact h2 j v q (by simpa using O) (by simpa using U)
 | [],_::_,hl,_=>by simp at hl
 |_::_,[],hl,_=>by simp at hl
noncomputable def PairsL (H:Hp)(l:o3)(ps:oj (Str×V)):Prop:=∃ts:oj o3,H l=u_ (.lst (ts.map V.ref))/\ts.length=ps.length/\∀(i:Nat) (t:o3) (p:Str×V),ts[i]? =u_ t->ps[i]? =u_ p->H t=u_ (.tup [.str p.1,p.2])
theorem dict_of {oq:oj (o3×Obj)}{σ:St}{H:Hp}{s:o7}{l:o3}{ps:oj (Str×V)}{Q:o6->o7->Prop}(hc:X.calm=v_)(I:Inv X oq σ H s)(hl:PairsL H l ps)(hn:(ps.map (·.1)).Nodup)(hz:ps.length<=1000)
  (h:∀h' O pv,0<O->(∀b o,s.heap.get? b=u_ o->h'.get? b=u_ o)->KV (inrK ps) pv->h'.DictOf (Qa X.prog X.w) s.heap.objs.size pv->Q (.ref s.heap.objs.size) {s with heap:=h',toks:=O}):
  V8 #[X,X] X.A (call (.type "dict") [.ref l]) Q X.xe s:=by
 erw[hl,ts,e1,e2,e3];obtain⟨_,its,n,rv,ho⟩:=(show yr X.prog X.w H s.heap l (.lst (ts.map V.ref)) from I.hok l _ e1)
 cases vals_refs rv;erw[pairs_are I.hok e2 e3,pv,r,hp];have ad:pv.length=ps.length:=by
  rw [<-r.length];unfold inrK;rw [ua]
 have aa:(pv.map (·.1)).Nodup:=by
  rw [<-r.keys,wg];exact RX _ (λa b ac e=>ac (Uu e)) hn
 refine uS (n:=1) I.tk ?_;refine AwK.dict_pairs (knd:=Qa X.prog X.w) (I.ok.hd hc) (ps:=pv) ho (by rw [uj,ua];omega) (by rw [uB];omega) (λj v p h1 h2=>hp j v p (by simpa using h1) h2) λh' O U kp=> ?_
 rw [WU (by simpa using aa),rF] at U
 exact λhtk=>h h' O pv htk kp r U
theorem call_dictP (hc:X.calm=v_):Ye X (.type "dict") (λxs H Q=>∃(l:o3) (ps:oj (Str×V)),xs= [.ref l]/\PairsL H l ps/\(ps.map (·.1)).Nodup/\ps.length<=1000/\∀q,H q=U_->Q (.ref q) (upd H q (.dK (inrK ps)))):=by
 intro oq s σ H xs us Q I r h;erw[h,l,ps,rfl,hl,hn,hz,q];erw[jH r,u,rfl,ru];cases ru;refine dict_of hc I hl hn hz λh' aa pv htk kp rel dd=> ?_;have O:(s.heap.objs.size==Vu)=false:=by
  rw [UH];exact vU I.big
 have U:(inrK ps).length<=sizeLine:=by unfold inrK;rw [ua,uB];omega
 exact⟨.ref s.heap.objs.size,_,I.laid kp (uh _) (dk_new U O rel dd),1,q _ I.fresh⟩
theorem WO (hc:X.calm=v_):Ye X (.type "dict") (λxs H Q=>∃(l:o3) (ps:oj (Str×V)),xs= [.ref l]/\PairsL H l ps/\(ps.map (·.1)).Nodup/\ps.length<=1000/\∀q o,H q=U_->Q (.ref q) (upd H q (.frz o (.dK (inrK ps))))):=by
 intro oq s σ H xs us Q I r h;erw[h,l,ps,rfl,hl,hn,hz,q];erw[jH r,u,rfl,ru];cases ru;refine dict_of hc I hl hn hz λh' aa pv htk kp rel dd=> ?_;have O:(s.heap.objs.size==Vu)=false:=by
  rw [UH];exact vU I.big
 have U:(inrK ps).length<=sizeLine:=by unfold inrK;rw [ua,uB];omega
 erw[id dd,o,es,ep,ho,rr];exact⟨.ref s.heap.objs.size,_,I.laid (o:= .frz o (.dK (inrK ps))) kp (uh _) [ho:dk_new U O rel dd],1,q _ o I.fresh⟩
end
mutual
noncomputable def puD:D->Bool
 | .str _=>v_
 | .int _=>v_
 | .tup xs=>puL xs
 |_=>V7
noncomputable def puL:oj D->Bool
 | []=>v_
 |x::r=>puD x&&puL r
end
mutual
noncomputable def eqD:D->D->Bool
 | .str a,.str b=>a==b
 | .int a,.int b=>a==b
 | .tup xs,.tup ys=>eqL xs ys
 |_,_=>V7
noncomputable def eqL:oj D->oj D->Bool
 | [],[]=>v_
 |x::r,y::q=>eqD x y&&eqL r q
 |_,_=>V7
end
mutual
theorem eqD_iff:∀{d e:D},puD d=v_->(eqD d e=v_↔d=e)
 | .str a,e,_=>by cases e<;>simp [eqD]
 | .int a,e,_=>by cases e<;>simp [eqD]
 | .tup xs,.tup ys,h=>by
  have:=eqL_iff (xs:=xs) (ys:=ys) (by simpa [puD] using h)
  simp only [eqD,this,D.tup.injEq]
 | .tup xs,.non,_=>by simp [eqD]
 | .tup xs,.bl _,_=>by simp [eqD]
 | .tup xs,.int _,_=>by simp [eqD]
 | .tup xs,.str _,_=>by simp [eqD]
 | .tup xs,.lst,_=>by simp [eqD]
 | .tup xs,.dct,_=>by simp [eqD]
 | .non,_,h=>by simp [puD] at h
 | .bl _,_,h=>by simp [puD] at h
 | .lst,_,h=>by simp [puD] at h
 | .dct,_,h=>by simp [puD] at h
theorem eqL_iff:∀{xs ys:oj D},puL xs=v_->(eqL xs ys=v_↔xs=ys)
 | [],[],_=>by simp [eqL]
 | [],_::_,_=>by simp [eqL]
 |_::_,[],_=>by simp [eqL]
 |x::r,y::q,h=>by
  have h':puD x=v_/\puL r=true:=by simpa [puL] using h
  simp only [eqL,ur,eqD_iff h'.1,eqL_iff h'.2,Ue]
end
mutual
theorem Is.det {H:Hp}:∀{d e:D}{v:V},puD d=v_->puD e=v_->Is H d v->Is H e v->d=e
 | .str a,e,v,_,he,h1,h2=>by
  obtain⟨rfl,_⟩:=(show v= .str a/\_ from h1)
  cases e with
  |str b=>obtain⟨q,_⟩:=(show V.str a=V.str b/\_ from h2);cases q;rfl
  |int b=>cases(show V.str a=V.int b from h2)
  |tup ys=>obtain⟨p,us,q,_⟩:=(show∃p us,V.str a=V.ref p/\_ from h2);cases q
  |_=>simp [puD] at he
 | .int a,e,v,_,he,h1,h2=>by
  cases(show v= .int a from h1)
  cases e with
  |str b=>obtain⟨q,_⟩:=(show V.int a=V.str b/\_ from h2);cases q
  |int b=>cases(show V.int a=V.int b from h2);rfl
  |tup ys=>obtain⟨p,us,q,_⟩:=(show∃p us,V.int a=V.ref p/\_ from h2);cases q
  |_=>simp [puD] at he
 | .tup xs,e,v,hd,he,h1,h2=>by
  obtain⟨p,vs,rfl,hp,hl⟩:=(show∃p vs,v=V.ref p/\H p=u_ (.tup vs)/\IsL H xs vs from h1)
  cases e with
  |str b=>obtain⟨q,_⟩:=(show V.ref p=V.str b/\_ from h2);cases q
  |int b=>cases(show V.ref p=V.int b from h2)
  |tup ys=>
   obtain⟨p',us,q,O,U⟩:=(show∃p' us,V.ref p=V.ref p'/\H p'=u_ (.tup us)/\IsL H ys us from h2)
   cases q;rw [hp] at O;cases O;rw [IsL.det (by simpa [puD] using hd) (by simpa [puD] using he) hl U]
  |_=>simp [puD] at he
 | .non,_,_,hd,_,_,_=>by simp [puD] at hd
 | .bl _,_,_,hd,_,_,_=>by simp [puD] at hd
 | .lst,_,_,hd,_,_,_=>by simp [puD] at hd
 | .dct,_,_,hd,_,_,_=>by simp [puD] at hd
theorem IsL.det {H:Hp}:∀{xs ys:oj D}{vs:oj V},puL xs=v_->puL ys=v_->IsL H xs vs->IsL H ys vs->xs=ys
 | [],[],_,_,_,_,_=>rfl
 | [],_::_,_,_,_,h1,h2=>by
  cases(show _= [] from h1)
  obtain⟨v,r,q,_⟩:=(show∃v r,[]=v::r/\_ from h2)
  cases q
 |_::_,[],_,_,_,h1,h2=>by
  cases(show _= [] from h2)
  obtain⟨v,r,q,_⟩:=(show∃v r,[]=v::r/\_ from h1)
  cases q
 |x::xs,y::ys,_,hd,he,h1,h2=>by
  erw[h1,v,r,rfl,a1,a2];erw[h2,v',r',q,b1,b2];cases q;have O:puD x=v_/\puL xs=true:=by simpa [puL] using hd
  have U:puD y=v_/\puL ys=true:=by simpa [puL] using he
  rw [Is.det O.1 U.1 a1 b1,IsL.det O.2 U.2 a2 b2]
end
theorem eqL_all:∀(xs ys:oj D),eqL xs ys=((Vi (min xs.length ys.length)).all (λj=>eqD (xs.getD j .non) (ys.getD j .non))&&xs.length==ys.length)
 | [],[]=>by simp [eqL]
 | [],_::_=>by simp [eqL]
 |_::_,[]=>by simp [eqL]
 |x::r,y::q=>by
  have O:=eqL_all r q;rw [ui,ui,show min (r.length+1) (q.length+1)=min r.length q.length+1 by omega,tQ,vz,UJ]
  have e:(Vi (min r.length q.length)).all ((λj=>eqD ((x::r).getD j .non) ((y::q).getD j .non))∘Tj)=(Vi (min r.length q.length)).all λj=>eqD (r.getD j .non) (q.getD j .non):=by congr 1
  rw [e];have U:(r.length+1==q.length+1)=(r.length==q.length):=by rw [vD];simp
  rw [U,R7,<-O]
  rfl
section
variable {X:Cx}{oq:oj (o3×Obj)}{σ:St}{H:Hp}{s:o7}
variable {z:Str}{e:D}{A:oh}
theorem eqAt_str (I:Inv X oq σ H s){t:Tok}{u:V}{b:o6}(U:puD e=v_)(h2:Is H e u)(O:RelV u b)(hu:A.units<Vj):Vr A s (.str z t) b (eqD (.str z) e):=by
 cases e with
 |str y=>
  obtain⟨rfl,_⟩:=(show u= .str y/\_ from h2)
  erw[O,t2,rfl];exact Td _ _ _ _
 |int y=>
  cases(show u= .int y from h2)
  erw[O,t2,rfl];exact UL _ _ _ _
 |tup ys=>
  obtain⟨p,us,rfl,hp,hl⟩:=(show∃p us,u=V.ref p/\H p=u_ (.tup us)/\IsL H ys us from h2)
  cases O;erw[I.tuple (.inl (.of hp)),its,_,q,_];exact R8 _ _ q hu
 |_=>simp [puD] at U
theorem eqAt_int (I:Inv X oq σ H s){z:Int}{t:Tok}{u:V}{b:o6}(U:puD e=v_)(h2:Is H e u)(O:RelV u b)(hu:A.units<Vj):Vr A s (.int z t) b (eqD (.int z) e):=by
 cases e with
 |str y=>
  obtain⟨rfl,_⟩:=(show u= .str y/\_ from h2)
  erw[O,t2,rfl];exact UK _ _ _ _
 |int y=>
  cases(show u= .int y from h2)
  erw[O,t2,rfl];exact tP _ _ _ _
 |tup ys=>
  obtain⟨p,us,rfl,hp,hl⟩:=(show∃p us,u=V.ref p/\H p=u_ (.tup us)/\IsL H ys us from h2)
  cases O;erw[I.tuple (.inl (.of hp)),its,_,q,_];exact rL _ _ q hu
 |_=>simp [puD] at U
theorem wm:∀{xs:oj D}{j:Nat}{x:D},puL xs=v_->xs[j]? =u_ x->puD x=v_
 | [],_,_,_,e=>by simp at e
 |y::r,0,x,h,e=>by
  have h':puD y=v_/\puL r=true:=by simpa [puL] using h
  have:y=x:=by simpa using e
  exact this▸h'.1
 |y::r,j+1,x,h,e=>by
  have h':puD y=v_/\puL r=true:=by simpa [puL] using h
  exact wm h'.2 (by simpa using e)
theorem eqAt_tup (I:Inv X oq σ H s){xs:oj D}{e:D}{v u:V}{a b:o6}{A:oh}(hd:puD (.tup xs)=v_)(he:puD e=v_)(h1:Is H (.tup xs) v)(h2:Is H e u)(r1:RelV v a)(r2:RelV u b)(hu:A.units<Vj)
  (ih:∀x∈xs,∀(e:D) (v u:V) (a b:o6),puD x=v_->puD e=v_->Is H x v->Is H e u->RelV v a->RelV u b->Vr A.in1 s a b (eqD x e)):Vr A s a b (eqD (.tup xs) e):=by
 obtain⟨p,vs,rfl,hp,hl⟩:=(show∃p vs,v=V.ref p/\H p=u_ (.tup vs)/\IsL H xs vs from h1)
 cases r1;erw[I.tuple (.inl (.of hp)),its,rv,q,_];cases e with
 |str y=>
  obtain⟨rfl,_⟩:=(show u= .str y/\_ from h2)
  erw[r2,t2,rfl];exact TK _ _ q hu
 |int y=>
  cases(show u= .int y from h2)
  erw[r2,t2,rfl];exact RN _ _ q hu
 |tup ys=>
  by_cases hv:V.ref p=u
  ·have:=Is.det (e:= .tup ys) hd he h1 (hv▸h2);subst hv;cases r2;rw [<-this,(eqD_iff hd).mpr rfl];exact HE _
  ·obtain⟨p',us,rfl,aa,O⟩:=(show∃p' us,u=V.ref p'/\H p'=u_ (.tup us)/\IsL H ys us from h2)
   cases r2;erw[I.tuple (.inl (.of aa)),its',U,q',_];have l1:its.length=xs.length:=by rw [<-rv.length,hl.length]
   have l2:its'.length=ys.length:=by rw [<-U.length,O.length]
   have ac:puL xs=true:=by simpa [puD] using hd
   have ad:puL ys=true:=by simpa [puD] using he
   have ae:=UV (e:=λj=>eqD (xs.getD j .non) (ys.getD j .non)) q q' hu λj a1 a2=>by
    have j1:j<xs.length:=by rw [<-l1];simpa using a1
    have j2:j<ys.length:=by rw [<-l2];simpa using a2
    obtain⟨v1,e1,i1⟩:=hl.get (i:=j) (d:=xs[j]) (by simp [j1])
    obtain⟨v2,e2,i2⟩:=O.get (i:=j) (d:=ys[j]) (by simp [j2])
    erw[rv.get e1,b1,f1,g1];erw[U.get e2,b2,f2,g2];have k1:its.toArray[j]=b1:=by
     have:=f1;rw [ug (by rwa [l1])] at this
     simpa using this
    have k2:its'.toArray[j]=b2:=by
     have:=f2;rw [ug (by rwa [l2])] at this
     simpa using this
    have d1:xs.getD j .non=xs[j]:=by simp [VW,j1]
    have d2:ys.getD j .non=ys[j]:=by simp [VW,j2]
    show Vr _ s _ _ (eqD (xs.getD j .non) (ys.getD j .non));rw [k1,k2,d1,d2];exact ih _ (v9 j1) _ _ _ _ _ (wm (j:=j) ac (by simp [j1])) (wm (j:=j) ad (by simp [j2])) i1 i2 g1 g2
   have e1:eqD (.tup xs) (.tup ys)=((Vi (min its.toArray.size its'.toArray.size)).all (λj=>eqD (xs.getD j .non) (ys.getD j .non))&&its.toArray.size==its'.toArray.size):=by
    rw [uj,uj,l1,l2,<-eqL_all];simp only [eqD]
   rw [e1];exact rC (λz=>hv (by rw [z])) ae
 |_=>simp [puD] at he
theorem eqAt_D (I:Inv X oq σ H s):∀(n:Nat) (d e:D) (v u:V) (a b:o6) (A:oh),dp d<=n->puD d=v_->puD e=v_->Is H d v->Is H e u->RelV v a->RelV u b->A.units+n<Vj->Vr A s a b (eqD d e):=by
 intro n
 induction n with
 |zero=>
  intro d e v u a b A hn hd U h1 h2 r1 r2 hu;cases d with
  |int z=>
   cases(show v= .int z from h1)
   erw[r1,t,rfl];exact eqAt_int I U h2 r2 hu
  |str z=>simp [dp] at hn
  |tup xs=>simp [dp] at hn
  |_=>simp [puD] at hd
 |succ n ih=>
  intro d e v u a b A hn hd U h1 h2 r1 r2 hu;have O:A.units<cLine:=Ur (V1 _ _) hu;cases d with
  |int z=>
   cases(show v= .int z from h1)
   erw[r1,t,rfl];exact eqAt_int I U h2 r2 O
  |str z=>
   obtain⟨rfl,_⟩:=(show v= .str z/\_ from h1)
   erw[r1,t,rfl];exact eqAt_str I U h2 r2 O
  |tup xs=>
   have hm:dpL xs<=n:=by
    have:dp (.tup xs)=1+dpL xs:=by simp only [dp]
    omega
   exact eqAt_tup I hd U h1 h2 r1 r2 O λx hx e v u a b k1 k2 k3 k4 k5 k6=>ih x e v u a b A.in1 ((wR xs).mp hm x hx) k1 k2 k3 k4 k5 k6 (by rw [uV];omega)
  |_=>simp [puD] at hd
end
section
variable {X:Cx}
noncomputable def trD:D->Bool
 | .str _=>v_
 | .tup xs=>puL xs
 |_=>V7
variable {oq:oj (o3×Obj)}{σ:St}{H:Hp}{s:o7}{A:oh}{n:Nat}{its:oj o6}
theorem parts_eq (I:Inv X oq σ H s){xs ys:oj D}{vs us:oj V}{its':oj o6}(hn:dpL xs<=n)(hd:puL xs=v_)(he:puL ys=v_)(hl:IsL H xs vs)(O:IsL H ys us)(rv:Vals vs its)(U:Vals us its')(hu:A.units+n<Vj):
  ∀j (a1:j<its.toArray.size) (a2:j<its'.toArray.size),Vr A s its.toArray[j] its'.toArray[j] (eqD (xs.getD j .non) (ys.getD j .non)):=λj a1 a2=>by
 have l1:its.length=xs.length:=by rw [<-rv.length,hl.length]
 have l2:its'.length=ys.length:=by rw [<-U.length,O.length]
 have j1:j<xs.length:=by rw [<-l1];simpa using a1
 have j2:j<ys.length:=by rw [<-l2];simpa using a2
 obtain⟨v1,e1,i1⟩:=hl.get (i:=j) (d:=xs[j]) (by simp [j1])
 obtain⟨v2,e2,i2⟩:=O.get (i:=j) (d:=ys[j]) (by simp [j2])
 erw[rv.get e1,b1,f1,g1];erw[U.get e2,b2,f2,g2];have k1:its.toArray[j]=b1:=by
  have:=f1;rw [ug (by rwa [l1])] at this
  simpa using this
 have k2:its'.toArray[j]=b2:=by
  have:=f2;rw [ug (by rwa [l2])] at this
  simpa using this
 have d1:xs.getD j .non=xs[j]:=by simp [VW,j1]
 have d2:ys.getD j .non=ys[j]:=by simp [VW,j2]
 rw [k1,k2,d1,d2];exact eqAt_D I n _ _ _ _ _ _ A ((wR xs).mp hn _ (v9 j1)) (wm (j:=j) hd (by simp [j1])) (wm (j:=j) he (by simp [j2])) i1 i2 g1 g2 hu
variable {e:D}{y:V}{u:o6}
theorem rc_D (I:Inv X oq σ H s){d:D}{x:V}{v:o6}(h1:Is H d x)(h2:Is H e y)(p1:trD d=v_)(p2:trD e=v_)(hn:dp d<=60)(rx:RelV x v)(ry:RelV y u)(hu:A.units+64<Vj):
  RS A s v u (eqD d e)/\FB A s v u (!eqD d e):=by
 have O:A.units<cLine:=by omega
 cases d with
 |str z=>
  obtain⟨rfl,_⟩:=(show x= .str z/\_ from h1)
  erw[rx,t,rfl];cases e with
  |str w=>
   obtain⟨rfl,_⟩:=(show y= .str w/\_ from h2)
   erw[ry,t2,rfl];exact[pd _ _ _ _:ph _ _ _ _]
  |tup ys=>
   obtain⟨p,us,rfl,hp,hl⟩:=(show∃p us,y=V.ref p/\H p=u_ (.tup us)/\IsL H ys us from h2)
   cases ry;erw[I.tuple (.inl (.of hp)),its,_,q,_];exact[pE _ _ q O:RV _ _ q O]
  |_=>simp [trD] at p2
 |tup xs=>
  obtain⟨p,vs,rfl,hp,hl⟩:=(show∃p vs,x=V.ref p/\H p=u_ (.tup vs)/\IsL H xs vs from h1)
  cases rx;erw[I.tuple (.inl (.of hp)),its,rv,q,_];cases e with
  |str w=>
   obtain⟨rfl,_⟩:=(show y= .str w/\_ from h2)
   erw[ry,t2,rfl];exact[pw _ _ q O:pP _ _ q O]
  |tup ys=>
   obtain⟨p',us,rfl,ac,U⟩:=(show∃p' us,y=V.ref p'/\H p'=u_ (.tup us)/\IsL H ys us from h2)
   cases ry;erw[I.tuple (.inl (.of ac)),its',aa,q',_];have hm:dpL xs<=60:=by
    have:dp (.tup xs)=1+dpL xs:=by simp only [dp]
    omega
   have l1:its.length=xs.length:=by rw [<-rv.length,hl.length]
   have l2:its'.length=ys.length:=by rw [<-aa.length,U.length]
   have pe:=parts_eq I (A:=A.in1) hm (by simpa [trD] using p1) (by simpa [trD] using p2) hl U rv aa (by rw [uV];omega)
   have e1:eqD (.tup xs) (.tup ys)=((Vi (min its.toArray.size its'.toArray.size)).all (λj=>eqD (xs.getD j .non) (ys.getD j .non))&&its.toArray.size==its'.toArray.size):=by
    rw [uj,uj,l1,l2,<-eqL_all];simp only [eqD]
   rw [e1];exact[UV q q' O pe:Fg q q' O pe]
  |_=>simp [trD] at p2
 |_=>simp [trD] at p1
inductive rCmpD (g:Bool->Bool) (x:V) (y:V) (H:Hp) (Q:VK):Prop
 |mk (d e:D) (_:Is H d x) (_:Is H e y) (_:trD d=v_) (_:trD e=v_) (_:dp d<=60) (_:Q (.bl (g (eqD d e))) H)
theorem op_eqD (O:X.A.units+64<Vj):OpR X (Vl .Eq) (rCmpD id):=by
 intro oq s σ H x y v u Q I U ry h;erw[h,d,e,h1,h2,p1,p2,hn,q];exact(rc_D I h1 h2 p1 p2 hn U ry O).1 X.prog X.w X.xe _ ⟨.bl _,H,I,1,q⟩
end
variable {X:Cx}
theorem Jv:Ye X (.builtin "len") (λxs H Q=>(∃z:Str,xs= [.str z]/\z.length<=Vb/\Q (.int z.length) H)∨∃p ys,xs= [.ref p]/\(SqL X.K H p ys∨SqT X.K H p ys)/\(ys.length<=Vb->Q (.int ys.length) H)):=by
 intro oq s σ H xs us Q I r h;rcases h with⟨z,e,O,q⟩|h
 ·exact kK oq s σ H xs us Q I r ⟨_,z.length,e,[O:1],q⟩
 ·exact call_lenB oq s σ H xs us Q I r h
noncomputable def gLstU (K:o0)(n:Nat)(t:TGs):TG:=λv σ H Q=>∃a xs,v= .ref a/\SqL K H a xs/\xs.length=n/\t xs σ H Q
theorem pg_lstU {X:Cx}{es:oj Expr}{k:Nat}{t:TGs}{n:Nat}{pos:Pos}(hc:X.calm=v_)(h:PGs X es t)
  (hn:(VU es X.env).length=n) (O:(VU es X.env).findIdx? (·.1)=U_):PG X (.Tuple es k pos) (gLstU X.K n t):=by
 intro oq s σ H v u Q I r U;erw[U,a,xs,e1,hq,hl,U];subst e1;cases r;erw[I.list hq,its,rv,ht,hz];rw [assign_Tuple];refine A6 (HC ?_);unfold unpack;rw [O,hn,<-hl,show xs.length=its.toArray.size by simp [rv.length]]
 refine A6 (VF (PySem.W.kun_itemsOf (I.ok.hd hc) ht.isList λh' hx=> ?_));have I1:Inv X oq σ H {s with heap:=h'}:=I.kept (t':=s.toks) λb o e=>hx b o (uL (uA e)) e
 exact h oq _ σ H xs _ Q I1 (by simpa using rv) U
variable {w:og}{K:o0}{mg:Str->om o6}{A:oh}
theorem pass1 {P:o9}{base:o8}{N:oj Str}{qual:Str}{scope:Vt}{f:o3}{cd:o6}{outer:oj Env}{s₀:o7}{H₀:Hp}{E:XK}:
  XL (CX1 P w) (cxOf (CX1 P w) P w K mg base N qual scope f cd A outer s₀ H₀ E) E:=by
 intro oq σ H s e s' I h;erw[h,ea,C,a0,H',B,rfl,au,ae,htk,aw,al,am,hold,hE];show V8 (Vq P w) (A.deeper (Vf qual scope s₀.heap.objs.size f cd)) (Ta (Vf qual scope s₀.heap.objs.size f cd) (.ref ea)) (λ_ af=>CX1 P w outer H₀ s₀ E (.ref ea) af) (λe' af=>CX1 P w outer H₀ s₀ E e' af) _;have ax:(A.deeper (Vf qual scope s₀.heap.objs.size f cd)).frames=u_ (Vf qual scope s₀.heap.objs.size f cd::outer):=I.ok.frames;have ag:frs (Vf qual scope s₀.heap.objs.size f cd::outer)=s₀.heap.objs.size::frs outer:=rfl;have O:Un (frs outer) [] H₀ H s₀.heap s.heap:=I.base;have U:Un (frs (Vf qual scope s₀.heap.objs.size f cd::outer)) [] H H' s.heap s'.heap:=aw;have aa:FQ B (Vf qual scope s₀.heap.objs.size f cd::outer) ea (.ref C) a0 s'.heap:=am;have ac:∀b o,s.heap.get? b=u_ o->b∉frs (Vf qual scope s₀.heap.objs.size f cd::outer)->∃o',B.get? b=u_ o':=hold;have ay:=aa.2.2.1;have ad:∀b o,s₀.heap.get? b=u_ o->b∉frs outer->b∉frs (Vf qual scope s₀.heap.objs.size f cd::outer):=λb o e hb hm=>by
  rw [ag] at hm;rcases A8.mp hm with rfl|hm
  ·exact absurd (uA e) (vK _)
  ·exact hb hm
 have nd:∀b∈frs outer,∀o,s'.heap.get? b=u_ o->∀vs,o.data≠ .fields vs:=λb hb o e=>by
  obtain⟨_,o',e',hn⟩:=ay.mem (show b∈(Vf qual scope s₀.heap.objs.size f cd::outer).filterMap (·.frame) from by rw [show(Vf qual scope s₀.heap.objs.size f cd::outer).filterMap (·.frame)=frs (Vf qual scope s₀.heap.objs.size f cd::outer) from rfl,ag];exact ue _ hb)
  rw [e] at e';cases e';exact hn
 refine wpAny_leaves_onW (base:=B) (L:=s₀.heap.objs.size) ax rfl aa λaA ah ao=> ?_;have aB:∀b o o',B.get? b=u_ o'->s'.heap.get? b=u_ o->aA.get? b=u_ o:=λb o o' e1 e2=>by
  have:=aa.1 b o' e1;rw [e2] at this;cases this;exact ah.1 b o e1
 refine⟨ea,C,a0,H',B,1,au.trans I.os,ae,htk,⟨?_,?_,?_,?_,?_,?_,?_⟩,al,ah,?_,hE⟩
 ·intro b o e1 hn hb hx;have e2:=O.keep b o e1 hn hb hx;have ak:=O.free b o e1 hn hx;have ap:=ad b o e1 hb;have e3:=U.keep b o e2 ak ap hx;erw[ac b o e2 ap,o',e4];exact aB b o o' e4 e3
 ·intro b o e1 hn hb hx;erw[O.slot b o e1 hn hb hx,sl,e2];have ak:=O.free b o e1 hn hx;obtain⟨aC,e3⟩:=U.slot b _ e2 ak (by rw [ag];exact ue _ hb) hx
  erw[ao b _ e3 (nd b hb _ e3),aq,e4];exact[aq:e4]
 ·intro b o e1 hn hx;erw[O.there b o e1 hx,o',e2];exact U.free b o' e2 (O.free b o e1 hn hx) hx
 ·intro b o e1 hx;erw[O.there b o e1 hx,o',e2];by_cases hb:b∈frs outer
  ·erw[U.there b o' e2 hx,o2,e3];erw[ao b _ e3 (nd b hb _ e3),aq,e4];exact[_:e4]
  ·erw[ac b o' e2 (ad b o e1 hb),o2,e3];exact[o2:ah.1 b o2 e3]
 ·exact λb xs e=>U.tups b xs (O.tups b xs e)
 ·exact λb o u e=>U.frzs b o u (O.frzs b o u e)
 ·intro b ps e;erw[O.tbls b ps e,m1,e1];erw[U.tbls b _ e1,m2,e2];exact⟨m1++m2,by rwa [<-Ts]⟩
 ·intro b o e1 hb;obtain⟨o',e2⟩:=O.there b o e1 (by simp)
  exact ac b o' e2 (ad b o e1 hb)
theorem passF:XL (CX1 X.prog X.w) X E0:=λ_ _ _ _ _ _ _ h=>by
 erw[h,_,_,_,_,_,_,_,_,_,_,_,_,_,z];exact VB z
end L2
namespace L2
open PySem PyProof.Rows
variable {H:Hp}{p:o3}
theorem Tk.updD {xs ys:oj (Key×V)}(h:H p=u_ (.dK xs)):Tk H (upd H p (.dK ys)):=by
 refine[λb zs e=> ?_:λb zs e=>[zs:?_]:λb zs e=> ?_]
 ·rw [qi (λz=>by rw [z,h] at e;cases e)];exact e
 ·rw [qi (λz=>by rw [z,h] at e;cases e)];exact e
 ·by_cases z:b=p
  ·exact⟨ys,by rw [z];exact qh⟩
  ·exact⟨zs,by rwa [qi z]⟩
variable {C dx:o3}
theorem Tk.updI {O dx':o3}{xs ys:oj (Str×V)}(h:H p=u_ (.ins C dx xs)):Tk H (upd H p (.ins O dx' ys)):=
 ⟨λb zs e=>by rw [qi (λz=>by rw [z,h] at e;cases e)];exact e,λb zs e=>⟨zs,by rw [qi (λz=>by rw [z,h] at e;cases e)];exact e⟩,λb zs e=>⟨zs,by rw [qi (λz=>by rw [z,h] at e;cases e)];exact e⟩⟩
section
variable {X:Cx}
inductive rStarts (x:V) (vs:List V) (H:Hp) (Q:VK):Prop
 |mk (z y:Str) (_:x= .str z) (_:vs= [.str y]) (_:Q (.bl (Vo z y)) H)
theorem mt_starts:MtM X "str.startswith" rStarts:=by
 intro oq s σ H x vs v us Q I O rv h;erw[h,z,y,rfl,rfl,q];erw[O,t,rfl];erw[rv.one,u,rfl,t',rfl];exact SC.startswith ⟨.bl (Vo z y),H,I,1,q⟩
end
theorem lc_dicF {d A:o3}{o:Obj}{H1:Hp}{tc:TT}{te:TE}{tl:St}{Q:VK}{kvs:oj (Key×V)}{ls:oj Str}(p:Str->Bool)(f:Str->V)(hd:H1 d=u_ (.frz o (.dK kvs)))(hk:kvs.map (·.1)=ls.map V9)(hn:ls.length<=Vb)(hA:H1 A=U_)
  (U:∀z H (R:Bool->Hp->Prop),z∈ls->Same H1 H->R (p z) H->tc (u_ (.str z)::tl) H R)
  (aa:∀z H (R:VK),z∈ls->Same H1 H->R (f z) H->te (u_ (.str z)::tl) H R)
  (hQ:∀H',Same H1 H'->H' A=u_ (.lst ((ls.filter p).map f))->Q (.ref A) H'):lcGo A (Itd d o) (jI 0) tc te (U_::tl) H1 Q:=by
 have ad:kvs.length=ls.length:=by
  have:=congrArg Vz hk
  simpa using this
 refine⟨ls.length,λi σ ys H=>(∃w,σ=w::tl)/\ys=((ls.take i).filter p).map f/\Same H1 H,hn,[[U_:1]:1:qg hA _],?_,?_⟩
 ·rintro i σ ys H hi ⟨⟨w,rfl⟩,rfl,sm⟩ O hy;exists [kvs:sm _ _ hd:()]
  rintro x H' ⟨rfl,hx⟩;have e:=hx kvs (sm _ _ hd);have e2:(kvs.map λp=>kV p.1)[i]? =u_ (V.str ls[i]):=by
   have:(kvs.map λp=>kV p.1)=(kvs.map (·.1)).map kV:=by rw [uK];rfl
   rw [this,hk,uK,uE,ug hi]
   rfl
  rw [e2] at e;cases e;have et:ls.take (i+1)=ls.take i++ [ls[i]]:=by rw [uY,ug hi];rfl
  have ac:∀ys,Same H1 (upd H' A (.lst ys)):=λys b o' e=>by
   rw [qi (qk e hA)];exact sm _ _ e
  dsimp only [jI,GB];refine U ls[i] H' _ (v9 hi) sm ?_;cases hp:p ls[i] with
  |true=>
   refine iteT (aa ls[i] H' _ (v9 hi) sm ⟨O,⟨0⟩,?_,ac _⟩);rw [et,Ut,Vc];simp [hp]
  |false=>
   refine iteF ⟨O,⟨0⟩,?_,sm⟩;rw [et,Ut,Vc];simp [hp]
 ·rintro σ ys H ⟨_,rfl,sm⟩ O;rw [vv] at O;exact[[kvs:sm _ _ hd:()]:hQ H sm O]
theorem lc_strs {K:o0}{a A:o3}{H1:Hp}{te:TE}{tl:St}{Q:VK}{ls:oj Str}(C:Nat->oj V->Hp->Prop)(ha:H1 a=u_ (.lst (ls.map V.str)))(hn:ls.length<=Vb)(hA:H1 A=U_)(h0:C 0 [] (upd H1 A (.lst [])))
  (aa:∀i z ys H,ls[i]? =u_ z->C i ys H->H A=u_ (.lst ys)->H a=u_ (.lst (ls.map V.str))->ys.length<=i->∀R:VK,(∀y H4,H4 A=u_ (.lst ys)->H4 a=u_ (.lst (ls.map V.str))->C (i+1) (ys++ [y]) (upd H4 A (.lst (ys++ [y])))->R y H4)->te (u_ (.str z)::tl) H R)
  (hQ:∀ys H,C ls.length ys H->H A=u_ (.lst ys)->Q (.ref A) H):lcGo A (Itl K a) (jI 0) tYes te (U_::tl) H1 Q:=by
 have U:a≠A:=qk ha hA;refine⟨ls.length,λi σ ys H=>(∃w,σ=w::tl)/\C i ys H/\H a=u_ (.lst (ls.map V.str)),hn,⟨[U_:1],h0,by rwa [qi U]⟩,?_,?_⟩
 ·rintro i σ ys H hi ⟨⟨w,rfl⟩,hc,hl⟩ O hy;have e0:(ls.map V.str)[i]? =u_ (V.str ls[i]):=by rw [uE,ug hi];rfl
  exists ⟨_,_,SqL.of hl,e0⟩;rintro x H' ⟨rfl,hx⟩;have e:=hx _ (SqL.of hl);rw [e0] at e;cases e;dsimp only [jI,tYes,GB];rw [A5 rfl];exact aa i ls[i] ys H' (ug hi) hc O hl hy _ λy H4 h4 h5 c4=>⟨h4,⟨0⟩,c4,by rwa [qi U]⟩
 ·rintro σ ys H ⟨_,hc,hl⟩ O;exact⟨⟨_,SqL.of hl,by simp⟩,hQ ys H hc O⟩
section
variable {X:Cx}{K:o0}{o e:Expr}{es:oj Expr}{to:TE}{t:TA}{name:Str}{apos cpos:Pos}{T id:String}{r:V->oj V->Hp->VK->Prop}
theorem pe_bmK (hK:X.K=K)(pa:HX T)(slot:Slot T name id)(ad:typeOf (.builtin id)=pure (.type "method_descriptor"))(hm:MtR X id r)(ho:PE X o to)(ha:PA X (e::es) t)
  (U:Gh o name X.env (eval o X.env)=eval o X.env)
  (ac:((Vk cpos (Vd (e::es) X.env)).all (λx=> !x.1)&&(Gj cpos (Gb [] X.env)).all (λx=>x.1.isSome)
   &&decide ((e::es).length+([]:oj gR).length+(if([]:oj gR).isEmpty then 0 else 1)<30))=v_)
  (aa:(apos.endLine==cpos.line)=v_) (hs:Vd (e::es) X.env=(V7,eval e X.env)::Vd es X.env) (O:(Vk cpos (Vd es X.env)).any (·.1)=V7):
  PE X (.Call (.Attribute o name apos) (e::es) [] cpos) (tBM K T r to t):=by
 subst hK;exact jh pa slot ad hm ho ha U ac aa hs O
end
theorem nolen_lri:GE (.type "list_reverseiterator") "__len__"=pure none:=by rw [Hx,Ux];kernel_rfl
theorem hint_lri:GE (.type "list_reverseiterator") "__length_hint__"=pure (u_ (.builtin "list_reverseiterator.__length_hint__")):=by rw [Hx,Ux];kernel_rfl
theorem paired_at {α β:Type}{F:α->β->Prop}:∀{l₁:oj α}{l₂:oj β},Paired F l₁ l₂->∀{j:Nat}{a:α}{b:β},l₁[j]? =u_ a->l₂[j]? =u_ b->F a b
 |_,_,.nil,j,a,b,h,_=>by simp at h
 |_,_,.cons f r,0,a,b,h1,h2=>by
  cases h1;cases h2;exact f
 |_,_,.cons f r,j+1,a,b,h1,h2=>paired_at r (j:=j) (by simpa using h1) (by simpa using h2)
noncomputable def okHd:D->Bool
 | .non=>v_
 |d=>trD d
section
variable {X:Cx}
inductive rEqM (x:V) (y:V) (H:Hp) (Q:VK):Prop
 |mk (d:D) (z:Str) (_:Is H d x) (_:y= .str z) (_:z.length<=1000) (_:okHd d=v_) (_:dp d<=60) (_:Q (.bl (eqD d (.str z))) H)
theorem op_eqM (hu:X.A.units+64<Vj):OpR X (Vl .Eq) rEqM:=by
 intro oq s σ H x y v u Q I O U h;erw[h,d,z,hd,rfl,hz,hk,hp,q];cases d with
 |non=>
  cases(show x= .non from hd)
  exact Qs oq s σ H .non (.str z) v u Q I O U ⟨1,by simpa [eqD] using q⟩
 |str a=>exact op_eqD hu oq s σ H x _ v u Q I O U ⟨_,.str z,hd,⟨1,by rw [uB];omega⟩,hk,1,hp,q⟩
 |tup a=>exact op_eqD hu oq s σ H x _ v u Q I O U ⟨_,.str z,hd,⟨1,by rw [uB];omega⟩,hk,1,hp,q⟩
 |_=>simp [okHd,trD] at hk
inductive rInM (K:PySem.W.Frag) (x:V) (y:V) (H:Hp) (Q:VK):Prop
 |mk (d:D) (p:Addr) (ls:List Str) (_:Is H d x) (_:y= .ref p) (_:(SqL K H p (ls.map V.str)∨SqT K H p (ls.map V.str))) (_:(∀z∈ls,z.length<=1000)) (_:okHd d=v_) (_:dp d<=60) (_:Q (.bl (ls.any λz=>eqD d (.str z))) H)
theorem flat_ss (us:oj Str):(us.map V.str).all Zo=true:=by
 rw [UJ,Uj];exact λ_ _=>rfl
theorem op_inM (hu:X.A.units+64<Vj):OpR X (Vl .In) (rInM X.K):=by
 intro oq s σ H x y v u Q I rx ry h;erw[h,d,p,ls,hd,rfl,O,ac,hk,hp,q];cases d with
 |non=>
  cases(show x= .non from hd)
  refine QZ oq s σ H .non _ v u Q I rx ry ⟨p,0,O,1,flat_ss _,?_⟩;have e:inV .non (ls.map V.str)=ls.any λz=>eqD .non (.str z):=by
   unfold inV;rw [Hg]
   rfl
  rwa [A4 u9,e]
 |str a=>
  erw[hd,rfl,_];refine QZ oq s σ H _ _ v u Q I rx ry ⟨p,0,O,1,flat_ss _,?_⟩;have e:inV (.str a) (ls.map V.str)=ls.any λz=>eqD (.str a) (.str z):=by
   unfold inV;rw [Hg];refine congrArg (λf=>ls.any f) (funext λz=> ?_);show(z==a)=(a==z);rw [vD,V3,V3];exact eq_comm
  rwa [A4 u9,e]
 |tup xs=>
  have e:(ls.any λz=>eqD (.tup xs) (.str z))=false:=by
   rw [HV];intro z _;simp [eqD]
  rw [e] at q;erw[hd,pa,vs,rfl,ha,hl];cases rx;cases ry;erw[I.tuple (.inl (.of ha)),ad,ae,af,_];have ag:X.A.units<cLine:=by omega
  have U:∀{its:oj o6},Vals (ls.map V.str) its->∀w∈its,∀A:oh,A.units+1<Vj->Vr A s w (.ref pa) false:=by
   intro its r w hw A hA;erw[List.mem_iff_getElem?.mp hw,j,hj];have aa:j<ls.length:=by
    have:=(Ae.mp hj).1;have:=r.length;rw [ua] at this;omega
   obtain⟨u',e1,e2⟩:=r.get (i:=j) (x:=V.str ls[j]) (by rw [uE,ug aa];rfl)
   rw [hj] at e1;cases e1;have:=eqAt_D I 1 (.str ls[j]) (.tup xs) (.str ls[j]) (.ref pa) _ (.ref pa) A (by simp [dp]) rfl (by simpa [okHd,trD,puD] using hk) ⟨1,by have:=ac _ (v9 aa);rw [uB];omega⟩ ⟨pa,vs,1,ha,hl⟩ e2 rfl ()
   simpa [eqD] using this
  rcases O with O|O
  ·erw[I.list O,its,r,pl,hz];refine Rs (λ_=>V7) pl.isList (λw hw=>U r w (by simpa using hw) _ ?_) ⟨.bl _,H,I,1,?_⟩
   ·first|omega|(rw [uV];omega)|(rw [uV,uV];omega)|(rw [uV,uV,uV];omega)
   ·rw [show its.toArray.any (λ_=>V7)=V7 by rw [Rx];exact List.any_eq_false.mpr λ_ _=>u9]
    exact q
  ·erw[I.tuple O,its,r,pl,hz];refine TJ (λ_=>V7) pl (λw hw=>U r w (by simpa using hw) _ ?_) ⟨.bl _,H,I,1,?_⟩
   ·first|omega|(rw [uV];omega)|(rw [uV,uV];omega)|(rw [uV,uV,uV];omega)
   ·rw [show its.toArray.any (λ_=>V7)=V7 by rw [Rx];exact List.any_eq_false.mpr λ_ _=>u9]
    exact q
 |_=>simp [okHd,trD] at hk
end
end L2
namespace L2
open PySem PySem.Spec PyProof.Rows Builtin Builtin.Str
noncomputable def tCallX (P:o9)(w:og)(K:o0)(mg:Str->om o6)(base:o8)(k:Nat)(tf:TE)(t:TA):TE:=λσ H Q=>tf σ H λv H1=>∃(f:o3) (fd:Va) (ps:oj Str) (sp:Sp),v= .ref f/\
 FnOk P w K mg base CX0 k f fd ps sp/\zK K fd ps []/\PySem.W.keepIn K (.ref f)=v_/\t σ H1 λvs H2=>sp vs H2 Q E0
theorem pe_callX {X:Cx}{o i e:Expr}{es:oj Expr}{O pos:Pos}{tf:TE}{t:TA}{k:Nat}{P:o9}{w:og}{K:o0}{mg:Str->om o6}{base:o8}(e1:X.prog=P/\X.w=w/\X.K=K/\X.mg=mg/\X.base=base)(hf:PE X (.Subscript o i O) tf)(hr:Room k X.A)(ha:PA X (e::es) t)
  (he:Vd (e::es) X.env=(V7,eval e X.env)::Vd es X.env) (U:(Vk pos (Vd es X.env)).any (·.1)=V7):
  PE X (.Call (.Subscript o i O) (e::es) [] pos) (tCallX P w K mg base k tf t):=by
 erw[e1,rfl,rfl,rfl,rfl,rfl];intro oq s σ H Q I h;show V8 _ _ (do tO pos (<-eval (.Subscript o i O) X.env) [] (Vk pos (Vd (e::es) X.env)) (Gj pos (Gb [] X.env))) _ _ s
 refine A6 (thn (hf oq s σ H _ I h) λu s1 zq=> ?_);erw[zq,v,H1,I1,rv,f,fd,ps,sp,ev,F,hb,hk,q];subst ev;obtain rfl:u=Ve f:=rv;refine UM (h₀:=X.base) I1.ok.mod.kin hk (thn (ha pos oq s1 σ H1 _ I1 q) λus s2 ⟨vs,H2,I2,r,q2⟩=>[I2.kIn:?_]) he U;exact run_fn (ds:= []) (dvs:= []) F hr hb .nil qB I2 r (by rw [uW];exact q2)
theorem KH (z y:Str)(hi O:Nat):∀(l:oj Nat) (st:Array Nat×Nat),(VN l st (gY z y hi O)).run.fst.size<=st.fst.size+l.length
 | [],st=>uh _
 |a::l,st=>by
  rw [Uw];unfold gY;split
  ·refine uI (KH z y hi O l _) ?_;simp only [Fw,ui];omega
  ·refine uI (KH z y hi O l _) ?_;simp only [ui];omega
theorem occ_len (z y:Str)(n:Nat):(occurrences z y 0 z.length n).length<=z.length+1:=by
 rw [rE];have:=KH z y z.length n (Gx 0 (z.length+1-0)) (#[],0);rw [uU];refine uI this ?_;simp
noncomputable def spG (z y:Str):oj Str:=if(decide (z.length<y.length)||decide (Vw z<Vw y))=v_ then [z] else if(occurrences z y 0 z.length (z.length+1)).isEmpty=v_ then [z] else partsBetween z (occurrences z y 0 z.length (z.length+1)) y.length
theorem spG_len (z y:Str):(spG z y).length<=z.length+2:=by
 unfold spG;have h:=occ_len z y (z.length+1);split
 ·simp
 ·split
  ·simp
  ·simp only [partsBetween,ua,List.length_zip,ui,uu,Hc];omega
variable {z:Str}
theorem spG_mem {y p:Str}(h:p∈spG z y):p.length<=z.length:=by
 unfold spG at h;split at h
 ·rw [vg] at h;subst h;exact uh _
 ·split at h
  ·rw [vg] at h;subst h;exact uh _
  ·simp only [partsBetween,Ab] at h;erw[h,q,_,e];rw [<-e];exact strSub_length_le _ _ _
section
variable {X:Cx}
inductive rSplitG (x:V) (vs:List V) (H:Hp) (Q:VK):Prop
 |mk (z:_) (y:_) (_:x= .str z) (_:vs= [.str y]) (_:0<y.length) (_:z.length<=1000) (_:∀p,H p=U_->Q (.ref p) (upd H p (.lst ((spG z y).map V.str))))
theorem mt_splitG:MtM X "str.split" rSplitG:=by
 intro oq s σ H x vs v us Q I rx rv h;erw[h,z,y,rfl,rfl,hy,hz,q];erw[rx,t,rfl];erw[rv.one,u,rfl,t',rfl];have aa:z.length<=sizeLine:=by rw [uB];omega
 have O:(y.length==0)=false:=by simp;omega
 have one:spG z y= [z]->∀(T:Nat),0<T->EP X oq σ Q (.ref s.heap.objs.size) {s with heap:=s.heap.push {cls:= .type "list",data:= .seq [VC z t].toArray},toks:=T}:=λe T hT=>by
  rw [e] at q;exact J8 (ys:= [V.str z]) I (.cons (show RelV (V.str z) _ from[t:1]) .nil) (by show 1<=Vb;decide) q
 cases h1:(decide (z.length<y.length)||decide (Vw z<Vw y)) with
 |true=>
  refine vQ vG (vP _ _ _) vC (U3 _ _) (FH z y t t' h1) ?_;exact one (by unfold spG;rw [A5 h1]) s.toks I.tk
 |false=>
  cases U:(occurrences z y 0 z.length (z.length+1)).isEmpty with
  |true=>
   refine vQ vG (vP _ _ _) vC (U3 _ _) (Rt z y t t' h1 O U) ?_;exact one (by unfold spG;rw [A4 (by rw [h1];decide),A5 U]) s.toks I.tk
  |false=>
   have hl:=spG_len z y;have e:spG z y=partsBetween z (occurrences z y 0 z.length (z.length+1)) y.length:=by unfold spG;rw [A4 (by rw [h1];decide),A4 (by rw [U];decide)]
   rw [e] at q hl;refine vQ vG (vP _ _ _) vC (U3 _ _) (rc z y t t' h1 O U aa (by rw [uB];omega)) ?_
   exact J8 I (X1 _ _) (by rw [ua,uB];omega) q
inductive rJoinT (K:PySem.W.Frag) (x:V) (vs:List V) (H:Hp) (Q:VK):Prop
 |mk (sep:Str) (p:Addr) (l:List Str) (_:x= .str sep) (_:vs= [.ref p]) (_:SqT K H p (l.map V.str)) (_:(l.map (·.length)).sum+l.length*sep.length<=1000000) (_:Q (.str (Vg sep l)) H)
theorem mt_joinT:MtM X "str.join" (rJoinT X.K):=by
 intro oq s σ H x vs v us Q I rx rv h;erw[h,sep,p,l,rfl,rfl,hp,hz,q];erw[rx,t,rfl];erw[rv.one,u,rfl,ru];cases ru;erw[I.tuple hp,its,r,pl,hl];erw[wk r,ps,rfl,e2];have U:tooLong ((ps.map (·.1)).toArray.foldl (·+ ·.length+sep.length) 0)=false:=by
  rw [e2];have:=TC sep l;rw [this];unfold tooLong;refine uc ?_;rw [uB];omega
 refine vQ F.slot_str_join (vP _ _ _) F.entry_str_join (F.args_str_join_2 _ _) (meets_str_join_tuple sep t p ps U) ⟨(let⟨o,h1,h2,n,h3⟩:=pl;⟨o,n,h1,h2,h3⟩),?_⟩;have O:(glued sep (ps.map (·.1))).length<=sizeLine:=FR U
 match ps,e2,O with
 | [],e2,O=>
  subst e2;exact⟨O,.str _,H,I.tok _,⟨0⟩,q⟩
 | [a],e2,_=>
  subst e2;exact⟨.str _,H,I,[a.2:1],q⟩
 |a::b::r,e2,O=>
  subst e2;exists O,.str _,H,I.tok _,⟨0⟩;rw [rq];exact q
theorem sl_any:SlR X (λx lo hi H Q=>rSlS x lo hi H Q∨rSlG X.K x lo hi H Q):=sl_str.or sl_tupG
end
end L2
namespace L2
open PySem PySem.Spec PyProof.Rows
open Builtin.Int (intBits)
section
variable {X:Cx}
inductive rInK (K:PySem.W.Frag) (w:World) (x:V) (y:V) (H:Hp) (Q:VK):Prop
 |mk (z:_) (a:_) (r:_) (_:x= .str z) (_:y= .ref a) (_:KDict K w a) (_:PySem.W.nsIn K a z=u_ r) (_:Q (.bl r.isSome) H)
theorem op_inK:OpR X (Vl .In) (rInK X.K X.w):=by
 intro oq s σ H x y v u Q I U ry h;erw[h,z,a,r,rfl,rfl,[hs,es,n,O,hk],hn,q];erw[U,t,rfl];cases ry;have hm:=PySem.W.mapOf_K (prog:=X.prog) (w:=X.w) I.kIn O hk;refine r6 (Tb X.prog X.w z t) hs hm ⟨.bl r.isSome,H,I.tok _,?_,q⟩;rw [PySem.W.find_K O hn]
 rfl
end
end L2
namespace L2
open PySem PySem.Spec PyProof.Rows
mutual
noncomputable def nD:D->Bool
 | .non=>v_
 | .str _=>v_
 | .int _=>v_
 | .tup xs=>nL xs
 |_=>V7
noncomputable def nL:oj D->Bool
 | []=>v_
 |x::r=>nD x&&nL r
end
theorem nL_get:∀{xs:oj D}{j:Nat}{x:D},nL xs=v_->xs[j]? =u_ x->nD x=v_
 | [],_,_,_,e=>by simp at e
 |y::r,0,x,h,e=>by
  have h':nD y=v_/\nL r=true:=by simpa [nL] using h
  have:y=x:=by simpa using e
  exact this▸h'.1
 |y::r,j+1,x,h,e=>by
  have h':nD y=v_/\nL r=true:=by simpa [nL] using h
  exact nL_get h'.2 (by simpa using e)
mutual
noncomputable def eqN:D->D->Bool
 | .non,.non=>v_
 | .str a,.str b=>a==b
 | .int a,.int b=>a==b
 | .tup xs,.tup ys=>eqNL xs ys
 |_,_=>V7
noncomputable def eqNL:oj D->oj D->Bool
 | [],[]=>v_
 |x::r,y::q=>eqN x y&&eqNL r q
 |_,_=>V7
end
mutual
theorem eqN_iff:∀{d e:D},nD d=v_->(eqN d e=v_↔d=e)
 | .non,e,_=>by cases e<;>simp [eqN]
 | .str a,e,_=>by cases e<;>simp [eqN]
 | .int a,e,_=>by cases e<;>simp [eqN]
 | .tup xs,.tup ys,h=>by
  have:=eqNL_iff (xs:=xs) (ys:=ys) (by simpa [nD] using h)
  simp only [eqN,this,D.tup.injEq]
 | .tup xs,.non,_=>by simp [eqN]
 | .tup xs,.bl _,_=>by simp [eqN]
 | .tup xs,.int _,_=>by simp [eqN]
 | .tup xs,.str _,_=>by simp [eqN]
 | .tup xs,.lst,_=>by simp [eqN]
 | .tup xs,.dct,_=>by simp [eqN]
 | .bl _,_,h=>by simp [nD] at h
 | .lst,_,h=>by simp [nD] at h
 | .dct,_,h=>by simp [nD] at h
theorem eqNL_iff:∀{xs ys:oj D},nL xs=v_->(eqNL xs ys=v_↔xs=ys)
 | [],[],_=>by simp [eqNL]
 | [],_::_,_=>by simp [eqNL]
 |_::_,[],_=>by simp [eqNL]
 |x::r,y::q,h=>by
  have h':nD x=v_/\nL r=true:=by simpa [nL] using h
  simp only [eqNL,ur,eqN_iff h'.1,eqNL_iff h'.2,Ue]
end
mutual
theorem Is.detN {H:Hp}:∀{d e:D}{v:V},nD d=v_->nD e=v_->Is H d v->Is H e v->d=e
 | .non,e,v,_,he,h1,h2=>by
  cases(show v= .non from h1)
  cases e with
  |non=>rfl
  |str b=>obtain⟨q,_⟩:=(show V.non=V.str b/\_ from h2);cases q
  |int b=>cases(show V.non=V.int b from h2)
  |tup ys=>obtain⟨p,us,q,_⟩:=(show∃p us,V.non=V.ref p/\_ from h2);cases q
  |_=>simp [nD] at he
 | .str a,e,v,_,he,h1,h2=>by
  obtain⟨rfl,_⟩:=(show v= .str a/\_ from h1)
  cases e with
  |non=>cases(show V.str a=V.non from h2)
  |str b=>obtain⟨q,_⟩:=(show V.str a=V.str b/\_ from h2);cases q;rfl
  |int b=>cases(show V.str a=V.int b from h2)
  |tup ys=>obtain⟨p,us,q,_⟩:=(show∃p us,V.str a=V.ref p/\_ from h2);cases q
  |_=>simp [nD] at he
 | .int a,e,v,_,he,h1,h2=>by
  cases(show v= .int a from h1)
  cases e with
  |non=>cases(show V.int a=V.non from h2)
  |str b=>obtain⟨q,_⟩:=(show V.int a=V.str b/\_ from h2);cases q
  |int b=>cases(show V.int a=V.int b from h2);rfl
  |tup ys=>obtain⟨p,us,q,_⟩:=(show∃p us,V.int a=V.ref p/\_ from h2);cases q
  |_=>simp [nD] at he
 | .tup xs,e,v,hd,he,h1,h2=>by
  obtain⟨p,vs,rfl,hp,hl⟩:=(show∃p vs,v=V.ref p/\H p=u_ (.tup vs)/\IsL H xs vs from h1)
  cases e with
  |non=>cases(show V.ref p=V.non from h2)
  |str b=>obtain⟨q,_⟩:=(show V.ref p=V.str b/\_ from h2);cases q
  |int b=>cases(show V.ref p=V.int b from h2)
  |tup ys=>
   obtain⟨p',us,q,O,U⟩:=(show∃p' us,V.ref p=V.ref p'/\H p'=u_ (.tup us)/\IsL H ys us from h2)
   cases q;rw [hp] at O;cases O;rw [IsL.detN (by simpa [nD] using hd) (by simpa [nD] using he) hl U]
  |_=>simp [nD] at he
 | .bl _,_,_,hd,_,_,_=>by simp [nD] at hd
 | .lst,_,_,hd,_,_,_=>by simp [nD] at hd
 | .dct,_,_,hd,_,_,_=>by simp [nD] at hd
theorem IsL.detN {H:Hp}:∀{xs ys:oj D}{vs:oj V},nL xs=v_->nL ys=v_->IsL H xs vs->IsL H ys vs->xs=ys
 | [],[],_,_,_,_,_=>rfl
 | [],_::_,_,_,_,h1,h2=>by
  cases(show _= [] from h1)
  obtain⟨v,r,q,_⟩:=(show∃v r,[]=v::r/\_ from h2)
  cases q
 |_::_,[],_,_,_,h1,h2=>by
  cases(show _= [] from h2)
  obtain⟨v,r,q,_⟩:=(show∃v r,[]=v::r/\_ from h1)
  cases q
 |x::xs,y::ys,_,hd,he,h1,h2=>by
  erw[h1,v,r,rfl,a1,a2];erw[h2,v',r',q,b1,b2];cases q;have O:nD x=v_/\nL xs=true:=by simpa [nL] using hd
  have U:nD y=v_/\nL ys=true:=by simpa [nL] using he
  rw [Is.detN O.1 U.1 a1 b1,IsL.detN O.2 U.2 a2 b2]
end
theorem Kc:∀(xs ys:oj D),eqNL xs ys=((Vi (min xs.length ys.length)).all (λj=>eqN (xs.getD j .non) (ys.getD j .non))&&xs.length==ys.length)
 | [],[]=>by simp [eqNL]
 | [],_::_=>by simp [eqNL]
 |_::_,[]=>by simp [eqNL]
 |x::r,y::q=>by
  have O:=Kc r q;rw [ui,ui,show min (r.length+1) (q.length+1)=min r.length q.length+1 by omega,tQ,vz,UJ]
  have e:(Vi (min r.length q.length)).all ((λj=>eqN ((x::r).getD j .non) ((y::q).getD j .non))∘Tj)=(Vi (min r.length q.length)).all λj=>eqN (r.getD j .non) (q.getD j .non):=by congr 1
  rw [e];have U:(r.length+1==q.length+1)=(r.length==q.length):=by rw [vD];simp
  rw [U,R7,<-O]
  rfl
section
variable {X:Cx}{oq:oj (o3×Obj)}{σ:St}{H:Hp}{s:o7}
variable {e:D}{A:oh}
theorem eqAt_nonN (I:Inv X oq σ H s){u:V}{b:o6}(U:nD e=v_)(h2:Is H e u)(O:RelV u b)(hu:A.units<Vj):Vr A s .none b (eqN .non e):=by
 cases e with
 |non=>
  cases(show u= .non from h2)
  cases O;exact HE _
 |str y=>
  obtain⟨rfl,_⟩:=(show u= .str y/\_ from h2)
  erw[O,t2,rfl];exact rB _ _
 |int y=>
  cases(show u= .int y from h2)
  erw[O,t2,rfl];exact F_ _ _
 |tup ys=>
  obtain⟨p,us,rfl,hp,hl⟩:=(show∃p us,u=V.ref p/\H p=u_ (.tup us)/\IsL H ys us from h2)
  cases O;erw[I.tuple (.inl (.of hp)),its,_,q,_];exact pc q hu
 |_=>simp [nD] at U
variable {z:Str}
theorem eqAt_strN (I:Inv X oq σ H s){t:Tok}{u:V}{b:o6}(U:nD e=v_)(h2:Is H e u)(O:RelV u b)(hu:A.units<Vj):Vr A s (.str z t) b (eqN (.str z) e):=by
 cases e with
 |non=>
  cases(show u= .non from h2)
  cases O;exact Tz _ _
 |str y=>
  obtain⟨rfl,_⟩:=(show u= .str y/\_ from h2)
  erw[O,t2,rfl];exact Td _ _ _ _
 |int y=>
  cases(show u= .int y from h2)
  erw[O,t2,rfl];exact UL _ _ _ _
 |tup ys=>
  obtain⟨p,us,rfl,hp,hl⟩:=(show∃p us,u=V.ref p/\H p=u_ (.tup us)/\IsL H ys us from h2)
  cases O;erw[I.tuple (.inl (.of hp)),its,_,q,_];exact R8 _ _ q hu
 |_=>simp [nD] at U
theorem eqAt_intN (I:Inv X oq σ H s){z:Int}{t:Tok}{u:V}{b:o6}(U:nD e=v_)(h2:Is H e u)(O:RelV u b)(hu:A.units<Vj):Vr A s (.int z t) b (eqN (.int z) e):=by
 cases e with
 |non=>
  cases(show u= .non from h2)
  cases O;exact Tv _ _
 |str y=>
  obtain⟨rfl,_⟩:=(show u= .str y/\_ from h2)
  erw[O,t2,rfl];exact UK _ _ _ _
 |int y=>
  cases(show u= .int y from h2)
  erw[O,t2,rfl];exact tP _ _ _ _
 |tup ys=>
  obtain⟨p,us,rfl,hp,hl⟩:=(show∃p us,u=V.ref p/\H p=u_ (.tup us)/\IsL H ys us from h2)
  cases O;erw[I.tuple (.inl (.of hp)),its,_,q,_];exact rL _ _ q hu
 |_=>simp [nD] at U
theorem parts_N {xs ys:oj D}{vs us:oj V}{its its':oj o6}{A:oh}(hd:nL xs=v_)(he:nL ys=v_)(hl:IsL H xs vs)(O:IsL H ys us)(rv:Vals vs its)(U:Vals us its')
  (ih:∀x∈xs,∀(e:D) (v u:V) (a b:o6),nD x=v_->nD e=v_->Is H x v->Is H e u->RelV v a->RelV u b->Vr A s a b (eqN x e)):
  ∀j (a1:j<its.toArray.size) (a2:j<its'.toArray.size),Vr A s its.toArray[j] its'.toArray[j] (eqN (xs.getD j .non) (ys.getD j .non)):=λj a1 a2=>by
 have l1:its.length=xs.length:=by rw [<-rv.length,hl.length]
 have l2:its'.length=ys.length:=by rw [<-U.length,O.length]
 have j1:j<xs.length:=by rw [<-l1];simpa using a1
 have j2:j<ys.length:=by rw [<-l2];simpa using a2
 obtain⟨v1,e1,i1⟩:=hl.get (i:=j) (d:=xs[j]) (by simp [j1])
 obtain⟨v2,e2,i2⟩:=O.get (i:=j) (d:=ys[j]) (by simp [j2])
 erw[rv.get e1,b1,f1,g1];erw[U.get e2,b2,f2,g2];have k1:its.toArray[j]=b1:=by
  have:=f1;rw [ug (by rwa [l1])] at this
  simpa using this
 have k2:its'.toArray[j]=b2:=by
  have:=f2;rw [ug (by rwa [l2])] at this
  simpa using this
 have d1:xs.getD j .non=xs[j]:=by simp [VW,j1]
 have d2:ys.getD j .non=ys[j]:=by simp [VW,j2]
 rw [k1,k2,d1,d2];exact ih _ (v9 j1) _ _ _ _ _ (nL_get (j:=j) hd (by simp [j1])) (nL_get (j:=j) he (by simp [j2])) i1 i2 g1 g2
theorem eqAt_tupN (I:Inv X oq σ H s){xs:oj D}{e:D}{v u:V}{a b:o6}{A:oh}(hd:nD (.tup xs)=v_)(he:nD e=v_)(h1:Is H (.tup xs) v)(h2:Is H e u)(r1:RelV v a)(O:RelV u b)(hu:A.units<Vj)
  (ih:∀x∈xs,∀(e:D) (v u:V) (a b:o6),nD x=v_->nD e=v_->Is H x v->Is H e u->RelV v a->RelV u b->Vr A.in1 s a b (eqN x e)):Vr A s a b (eqN (.tup xs) e):=by
 obtain⟨p,vs,rfl,hp,hl⟩:=(show∃p vs,v=V.ref p/\H p=u_ (.tup vs)/\IsL H xs vs from h1)
 cases r1;erw[I.tuple (.inl (.of hp)),its,rv,q,_];cases e with
 |non=>
  cases(show u= .non from h2)
  cases O;exact pI q hu
 |str y=>
  obtain⟨rfl,_⟩:=(show u= .str y/\_ from h2)
  erw[O,t2,rfl];exact TK _ _ q hu
 |int y=>
  cases(show u= .int y from h2)
  erw[O,t2,rfl];exact RN _ _ q hu
 |tup ys=>
  by_cases hv:V.ref p=u
  ·have:=Is.detN (e:= .tup ys) hd he h1 (hv▸h2);subst hv;cases O;rw [<-this,(eqN_iff hd).mpr rfl];exact HE _
  ·obtain⟨p',us,rfl,ac,U⟩:=(show∃p' us,u=V.ref p'/\H p'=u_ (.tup us)/\IsL H ys us from h2)
   cases O;erw[I.tuple (.inl (.of ac)),its',aa,q',_];have l1:its.length=xs.length:=by rw [<-rv.length,hl.length]
   have l2:its'.length=ys.length:=by rw [<-aa.length,U.length]
   have ad:=UV (e:=λj=>eqN (xs.getD j .non) (ys.getD j .non)) q q' hu (parts_N (by simpa [nD] using hd) (by simpa [nD] using he) hl U rv aa ih)
   have e1:eqN (.tup xs) (.tup ys)=((Vi (min its.toArray.size its'.toArray.size)).all (λj=>eqN (xs.getD j .non) (ys.getD j .non))&&its.toArray.size==its'.toArray.size):=by
    rw [uj,uj,l1,l2,<-Kc];simp only [eqN]
   rw [e1];exact rC (λz=>hv (by rw [z])) ad
 |_=>simp [nD] at he
theorem eqAt_N (I:Inv X oq σ H s):∀(n:Nat) (d e:D) (v u:V) (a b:o6) (A:oh),dp d<=n->nD d=v_->nD e=v_->Is H d v->Is H e u->RelV v a->RelV u b->A.units+n<Vj->Vr A s a b (eqN d e):=by
 intro n
 induction n with
 |zero=>
  intro d e v u a b A hn hd U h1 h2 r1 r2 hu;cases d with
  |non=>
   cases(show v= .non from h1)
   cases r1;exact eqAt_nonN I U h2 r2 hu
  |int z=>
   cases(show v= .int z from h1)
   erw[r1,t,rfl];exact eqAt_intN I U h2 r2 hu
  |str z=>simp [dp] at hn
  |tup xs=>simp [dp] at hn
  |_=>simp [nD] at hd
 |succ n ih=>
  intro d e v u a b A hn hd U h1 h2 r1 r2 hu;have O:A.units<cLine:=Ur (V1 _ _) hu;cases d with
  |non=>
   cases(show v= .non from h1)
   cases r1;exact eqAt_nonN I U h2 r2 O
  |int z=>
   cases(show v= .int z from h1)
   erw[r1,t,rfl];exact eqAt_intN I U h2 r2 O
  |str z=>
   obtain⟨rfl,_⟩:=(show v= .str z/\_ from h1)
   erw[r1,t,rfl];exact eqAt_strN I U h2 r2 O
  |tup xs=>
   have hm:dpL xs<=n:=by
    have:dp (.tup xs)=1+dpL xs:=by simp only [dp]
    omega
   exact eqAt_tupN I hd U h1 h2 r1 r2 O λx hx e v u a b k1 k2 k3 k4 k5 k6=>ih x e v u a b A.in1 ((wR xs).mp hm x hx) k1 k2 k3 k4 k5 k6 (by rw [uV];omega)
  |_=>simp [nD] at hd
inductive rCmpN (g:Bool->Bool) (x:V) (y:V) (H:Hp) (Q:VK):Prop
 |mk (ds es:List D) (_:Is H (.tup ds) x) (_:Is H (.tup es) y) (_:nL ds=v_) (_:nL es=v_) (_:dpL ds<=60) (_:Q (.bl (g (eqNL ds es))) H)
variable {ds:oj D}{y:V}{u:o6}
theorem rc_N (I:Inv X oq σ H s){es:oj D}{x:V}{v:o6}(h1:Is H (.tup ds) x)(h2:Is H (.tup es) y)(hn:nL ds=v_)(aa:nL es=v_)(hd:dpL ds<=60)(rx:RelV x v)(ry:RelV y u)(hu:X.A.units+64<Vj):
  RS X.A s v u (eqNL ds es)/\FB X.A s v u (!eqNL ds es):=by
 obtain⟨p,vs,rfl,hp,hl⟩:=(show∃p vs,x=V.ref p/\H p=u_ (.tup vs)/\IsL H ds vs from h1)
 obtain⟨p',us,rfl,ac,O⟩:=(show∃p vs,y=V.ref p/\H p=u_ (.tup vs)/\IsL H es vs from h2)
 cases rx;cases ry;erw[I.tuple (.inl (.of hp)),its,rv,q,_];erw[I.tuple (.inl (.of ac)),its',U,q',_];have l1:its.length=ds.length:=by rw [<-rv.length,hl.length]
 have l2:its'.length=es.length:=by rw [<-U.length,O.length]
 have pe:=parts_N (A:=X.A.in1) hn aa hl O rv U λx hx e v u a b k1 k2 k3 k4 k5 k6=>eqAt_N I 60 x e v u a b X.A.in1 ((wR ds).mp hd x hx) k1 k2 k3 k4 k5 k6 (by rw [uV];omega)
 have e1:=UV (e:=λj=>eqN (ds.getD j .non) (es.getD j .non)) q q' () pe
 have e2:=Fg (e:=λj=>eqN (ds.getD j .non) (es.getD j .non)) q q' () pe
 rw [uj,uj,l1,l2,<-Kc] at e1 e2;exact[e1:e2]
theorem op_neTN (U:X.A.units+64<Vj):OpR X (Vl .NotEq) (rCmpN not):=by
 intro oq s σ H x y v u Q I rx ry h;erw[h,ds,es,h1,h2,hn,O,hd,q];exact(rc_N I h1 h2 hn O hd rx ry U).2 X.prog X.w X.xe _ ⟨.bl _,H,I,1,q⟩
end
structure FF (K:o0)(mg:Str->om o6)(x:Str)(st:Stmt)(ps:oj Str)(f:o3)(fd:Va):Prop where
 F:Fun K x x st f fd
 b:zK K fd ps []
 m:mg x=u_ (.ref f)
structure FM (K:o0)(C:o3)(x q:Str)(st:Stmt)(ps:oj Str)(f:o3)(fd:Va):Prop where
 F:Fun K x q st f fd
 b:zK K fd ps []
 h:Meth K C x f
noncomputable def FZ (K:o0)(x q:Str)(st:Stmt)(f:o3):Prop:=∃(oc kV dc pm cd ct:o6) (od an:om o3) (sl:Array (om o6)),K.lookup f=u_ ⟨oc,od,.func (PySem.W.fnOf x q (Yw st) (yQ st) (qj st) .none kV dc pm an cd ct),sl⟩/\PySem.W.codeIn K cd q=v_/\PySem.W.keepIn K (.ref f)=v_
noncomputable def FZg (K:o0)(x:Str)(st:Stmt)(f:o3):Prop:=PySem.W.nsIn K Vv x=u_ (u_ (.ref f))/\FZ K x x st f
noncomputable def FZm (K:o0)(C:o3)(x q:Str)(st:Stmt)(f:o3):Prop:=PySem.W.findIn K (.ref C) x=u_ (u_ (.ref f))/\PySem.W.isFn K (.ref f)=v_/\FZ K x q st f
noncomputable def BOk (x q:Str)(st:Stmt)(ps:oj Str):Prop:=∀(kV doc pm:o6) (an:om o3) (cdv ct:o6) (us:oj o6),us.length=ps.length->g_ (PySem.W.fnOf x q (Yw st) (yQ st) (qj st) .none kV doc pm an cdv ct) [us:[]]=pure (ps.zip us)
variable {K:o0}{h:o8}{mg:Str->om o6}{x:Str}{st:Stmt}
theorem Qd (X:K.In h)(G:h.Ns Vv mg){f:o3}(z:FZg K x st f)(ps:oj Str)(O:BOk x x st ps):∃fd,FF K mg x st ps f fd:=by
 erw[z,a,oc,kV,dc,pm,U,ct,od,an,sl,l,c,k];have F:=fun_mk (st:=st) l c k;exact⟨_,F,F.binds O,uP X G a⟩
variable {C:o3}
theorem yW {q:Str}{f:o3}(z:FZm K C x q st f)(ps:oj Str)(O:BOk x q st ps):∃fd,FM K C x q st ps f fd:=by
 erw[z,a,i,oc,kV,dc,pm,U,ct,od,an,sl,l,c,k];have F:=fun_mk (st:=st) l c k;exact⟨_,F,F.binds O,[a:i:k]⟩
theorem FF.law {ps:oj Str}{f:o3}{fd:Va}(T:FF K mg x st ps f fd){y:Str}(h:∀(kV doc pm:o6) (an:om o3) (cdv ct u:o6),g_ (PySem.W.fnOf x x (Yw st) (yQ st) (qj st) .none kV doc pm an cdv ct) [[u]:[]]=pure [(y,u)])(s:o7)(u:o6):Gr s fd [[u]:[]] [(y,u)]:=by
 erw[T.F.ex,oc,od,kV,doc,pm,an,cdv,ct,osl,rfl,lk,O];exact .of_eq (h kV doc pm an cdv ct u)
noncomputable def txt? (u:o6):om Str:=match u with
 | .str z _=>u_ z
 |_=>U_
noncomputable def TZ (K:o0)(q:o3)(l:oj Str):Prop:=∃(d:om o3) (i:Array o6) (n:Nat) (sl:Array (om o6)),K.lookup q=u_ ⟨.type "tuple",d,.seq i n,sl⟩/\i.toList.map txt? =l.map u_
theorem strs_of:∀{l:oj Str}{us:oj o6},us.map txt? =l.map u_->Vals (l.map V.str) us
 | [],[],_=> .nil
 |z::l,u::us,h=>by
  rw [uq,uq] at h;injection h with h1 h2
  cases u with
  |str y t=>
   have:y=z:=uF h1;subst this;exact .cons [t:1] (strs_of h2)
  |_=>cases h1
 | [],_::_,h=>by simp at h
 |_::_,[],h=>by simp at h
variable {H:Hp}{q:o3}{l:oj Str}
theorem TZ.sq (h:TZ K q l)(hz:l.length<=100):SqT K H q (l.map V.str):=by
 erw[h,d,its,n,sl,U,e];have O:its.size=l.length:=by rw [<-uU];simpa using congrArg Vz e
 exact .inr ⟨_,its,n,U,1,1,by rw [O];exact UY (X2 ()),strs_of e⟩
noncomputable def TZn (K:o0)(a:o3)(x:Str)(l:oj Str):Prop:=∃q,PySem.W.nsIn K a x=u_ (u_ (.ref q))/\TZ K q l
end L2
namespace L2
open PySem PyProof.Rows
variable {σ:St}{H:Hp}
theorem qD {t u:TS}{D:Ends}(h:∀N:St->Hp->Prop,(∀O H',u D O H'->N O H')->t {D with nx:=N} σ H):tSeq t u D σ H:=h (u D) λ_ _ h=>h
theorem wS {xs:oj V}{us:oj o6}(r:Vals xs us):∀is:oj Nat,Vals (is.filterMap (xs[·]?)) (is.filterMap (us[·]?))
 | []=> .nil
 |i::is=>by
  rw [vh,vh];have U:=r.length;cases e:xs[i]? with
  |none=>
   have:us[i]? =none:=re (by have:=List.getElem?_eq_none_iff.mp e;omega)
   rw [this];exact wS r is
  |some x=>
   erw[r.get e,u,O,g];rw [O];exact .cons g (wS r is)
end L2
namespace L2
open PySem PySem.Spec PyProof.Rows
section
variable {X:Cx}{oq:oj (o3×Obj)}{σ:St}{H:Hp}{s:o7}{d:o3}
theorem tuple_byD {prog:o9}{w:og}{A:oh}{E:o6->o7->Prop}{r:o3}{Q:o6->o7->Prop}{G:oj o6->o7->Prop}(aa:s.TypeIs (.ref r) "dict")
  (U:∀(R:oj o6->o7->Prop) (E':o6->o7->Prop),(∀vs s',G vs s'->R vs s')->V8 #[w,w] A.in1.in1 (collect (.ref r)) R E' s)
  (hQ:∀vs s',G vs s'->vs.length<=Vb/\Q (.ref s'.heap.objs.size) {s' with heap:=s'.heap.push {cls:= .type "tuple",data:= .seq vs.toArray}}):
  V8 #[w,w] A (call (.type "tuple") [.ref r]) Q E s:=by
 have new:VD #[w,w] A.in1 (.call (.builtin "tuple.__new__") ⟨[.type "tuple",.ref r],[]⟩) (wants (λobj O=>O.TypeIs obj "tuple"/\Q obj O) E) s:=by
  refine codeAny_of_tree ?_;show V8 _ A.in1.in1 (do checkBuiltinCall "tuple.__new__" [[.type "tuple",.ref r]:[]];again (.builtin "tuple.__new__" [[.type "tuple",.ref r]:[]])) _ _ s
  refine A6 (Tt (PySem.F.newCall_tuple_1 _) (uw [Hd PySem.F.plain_tuple_new _:T7 PySem.F.entry_tuple_new ?_]));rw [Tl PySem.F.plain_tuple_new _];have s1:=sub_tuple_self;have s2:=init_tuple_lookup;have s3:=madeHere_tuple
  wp_walk using VZ aa,U
  intro vs s' hg;erw[hQ vs s' hg,hl,hq];show V8 _ _ (GD vs.toArray>>=λv=>ret v) _ _ _;unfold GD;refine A6 (vw ?_ (by show vs.toArray.size<=Vb;simpa using hl))
  exact uw [[_:uC _ rfl:1]:hq]
 refine tj (Q₁:=λobj O=>O.TypeIs obj "tuple"/\Q obj O) PySem.F.called_tuple (PySem.F.typeCall_tuple_1 _) PySem.F.entry_object_init new λobj O h₁=> ?_;exact[h₁.1:PySem.F.args_object_init_2 obj _:object_init_meets PySem.F.called_tuple.init.lookup PySem.F.called_tuple.made () prog w A.in1 _ O [h₁.1:1:h₁.2]]
end
section
variable {X:Cx}
theorem call_tupleD (hc:X.calm=v_):Ye X (.type "tuple") (λxs H Q=>∃(d:o3) (kvs:oj (Key×V)),xs= [.ref d]/\Rd H d (.dK kvs)/\∀t,H t=U_->Q (.ref t) (upd H t (.tup (kvs.map λp=>kV p.1)))):=by
 intro oq s σ H xs us Q I r h;erw[h,d,kvs,rfl,hd,q];erw[jH r,u,rfl,ru];cases ru;erw[wf I.hok hd,hz,lo,vs,aa,dd];erw[id dd,o,es,ep,ho];have ad:s.heap.DictAt (Qa X.prog X.w) d vs ep:=[o:es:ho];refine uS (n:=1) I.tk ?_;refine tuple_byD (G:=λus s'=>∃(h':o8) (tk:Nat) (O:Array o6),us=O.toList/\s'={s with heap:=h',toks:=tk}/\(∀b o,s.heap.get? b=u_ o->h'.get? b=u_ o)/\T5 (λi v=>∃k x,vs[i]? =u_ (k,x)/\(Qa X.prog X.w).is k v=v_) O vs.length) dd.typeIs
  (λR E' k=>PySem.W.kdu_collect (A:=X.A.in1.in1) (PySem.W.kdl_dict lo) (I.ok.hd hc) ad (by rwa [<-aa.length]) λh' tk O ac U=>k _ _ ⟨h',tk,O,1,1,ac,U⟩) ?_
 rintro us s' ⟨h',tk,O,rfl,rfl,ac,U⟩;have ae:O.toList.length=vs.length:=by rw [uU,U.1]
 have af:=aa.length;refine[():λhtk=> ?_]
 have I':Inv X oq σ H {s with heap:=h',toks:=tk}:=I.kept ac htk
 have hv:Vals (kvs.map λp=>kV p.1) O.toList:=by
  refine XD (by rw [ua];omega) λj x v hx hv=> ?_
  rw [uE] at hx;cases hj:kvs[j]? with
  |none=>rw [hj] at hx;cases hx
  |some p=>
   rw [hj] at hx;cases hx;obtain⟨k,y,e1,e2⟩:=U.2 j v (by rwa [<-U1])
   have e3:=(paired_at aa hj e1).1;show RelV (kV p.1) v;rw [e3];exact kV_rel e2
 refine⟨.ref h'.objs.size,_,I'.laid (t':=tk) (o:= .tup (kvs.map λp=>kV p.1)) (λb u w=>ud _ w) (uh _) ⟨by rwa [ua],O.toList,hv,⟨_,uC _ rfl,1,0⟩⟩ htk,1,q _ (I'.hok.fresh (uh _))⟩
end
section
variable {x q:Str}{st:Stmt}{a b c d:Str}
theorem bo1 (h:∀(kV doc pm:o6) (an:om o3) (cdv ct u:o6),g_ (PySem.W.fnOf x q (Yw st) (yQ st) (qj st) .none kV doc pm an cdv ct) [[u]:[]]=pure [(a,u)]):BOk x q st [a]:=by
 intro k1 k2 k3 U k5 k6 us O;rcases us with _|⟨u,_|⟨_,_⟩⟩
 ·cases O
 ·exact h k1 k2 k3 U k5 k6 u
 ·cases O
theorem bo2 (h:∀(kV doc pm:o6) (an:om o3) (cdv ct u v:o6),g_ (PySem.W.fnOf x q (Yw st) (yQ st) (qj st) .none kV doc pm an cdv ct) [[u,v]:[]]=pure [(a,u),(b,v)]):BOk x q st [a,b]:=by
 intro k1 k2 k3 U k5 k6 us O;rcases us with _|⟨u,_|⟨v,_|⟨_,_⟩⟩⟩
 ·cases O
 ·cases O
 ·exact h k1 k2 k3 U k5 k6 u v
 ·cases O
theorem bo3 (h:∀(kV doc pm:o6) (an:om o3) (cdv ct u v w:o6),g_ (PySem.W.fnOf x q (Yw st) (yQ st) (qj st) .none kV doc pm an cdv ct) [[u,v,w]:[]]=pure [(a,u),(b,v),(c,w)]):BOk x q st [a,b,c]:=by
 intro k1 k2 k3 U k5 k6 us O;rcases us with _|⟨u,_|⟨v,_|⟨w,_|⟨_,_⟩⟩⟩⟩
 ·cases O
 ·cases O
 ·cases O
 ·exact h k1 k2 k3 U k5 k6 u v w
 ·cases O
theorem bo4 (h:∀(kV doc pm:o6) (an:om o3) (cdv ct u v w z:o6),g_ (PySem.W.fnOf x q (Yw st) (yQ st) (qj st) .none kV doc pm an cdv ct) [[u,v,w,z]:[]]=pure [(a,u),(b,v),(c,w),(d,z)]):BOk x q st [a,b,c,d]:=by
 intro k1 k2 k3 U k5 k6 us O;rcases us with _|⟨u,_|⟨v,_|⟨w,_|⟨z,_|⟨_,_⟩⟩⟩⟩⟩
 ·cases O
 ·cases O
 ·cases O
 ·cases O
 ·exact h k1 k2 k3 U k5 k6 u v w z
 ·cases O
end
noncomputable def IrvL (K:o0)(a:o3)(n:Nat):It:=
 ⟨λi H=>i<n/\∃xs,SqL K H a xs/\xs.length=n,λi H x H'=>H'=H/\∀xs,SqL K H a xs->xs[n-1-i]? =u_ x,λi _=>i=n⟩
variable {w:og}{K:o0}{tg:Expr}
theorem turn_revL {P:o9}(a it:o3)(n:Nat):Turn P w K tg (IrvL K a n) [it] it (λi h=>i<=n/\h.IsRevIter it a ((n:Int)-1-(i:Int))) where
 mem:=by simp
 obj:=λi h st b U=>by
  have e:b=it:=by simpa using U
  subst e;erw[st,_,o,e,c,d];exact⟨o,e,λv z=>by rw [d] at z;cases z⟩
 keep:=λi h h' st k=>⟨st.1,st.2.at λo e=>k it (by simp) o e⟩
 item:=by
  intro X hP hw hK hc i oq s σ H E I hf st hg;subst hP hw hK;erw[hg,hi,xs,hq,hx];erw[I.list hq,its,rv,p,hz];erw[rv.get (i:=n-1-i) (x:=xs[n-1-i]'()) (ug ()),u,hu,ru]
  obtain⟨f0,f1,f2,f3,f4,f5⟩:=hf it (by simp)
  have e0:(n:Int)-1-(i:Int)=((n-1-i:Nat):Int):=by omega
  have O:=st.2;rw [e0] at O;refine wpAny_pyNext_rev_item O p.isList (x:=u) (by simpa using hu) λh' aa sb=> ?_
  have I1:Inv X oq σ H {s with heap:=h'}:=I.turned (t':=s.toks) (λb o U e=>(sb.2 b U).trans e) f0 f1 f3 f4 f5
  erw[id aa,o,e,c,d];refine[u:1:go_of (s:={s with heap:=h'}) e c d () ⟨xs[n-1-i]'(),H,I1,ru,[1:λys hy=> ?_],[hi:?_],λb U=>(hf b U).1⟩]
  ·rw [I.list_inj hy hq];exact ug ()
  ·rw [show(n:Int)-1-((i+1:Nat):Int)=((n-1-i:Nat):Int)-1 by omega]
   exact aa
 done:=by
  intro X hP hw hK hc i oq s σ H E I hf st hg;subst hP hw hK;have hi:i=n:=hg;subst hi;obtain⟨f0,f1,f2,f3,f4,f5⟩:=hf it (by simp)
  have O:=st.2;rw [show(i:Int)-1-(i:Int)= -1 by omega] at O
  exact wpAny_pyNext_rev_end (I.ok.hd hc) O λh' eb=>[1:I.turned (t':=s.toks) (λb o U e=>eb b o U e) f0 f1 f3 f4 f5]
 self:=λ_ _ _ _ _ st h=>Fy st.2 h
noncomputable def iRevL (K:o0)(te:TE):TI:=λσ H R=>te σ H λx H2=>∃a xs,x= .ref a/\SqL K H2 a xs/\R (IrvL K a xs.length) H2
section
variable {X:Cx}
theorem pi_revL {tg:Expr}{p pos:Pos}{e:Expr}{te:TE}(hg:Gl X "reversed")(hm:X.mg "reversed"=U_)(he:PE X e te)(hs:Vd [e] X.env= [(V7,eval e X.env)]):
  PI X tg (.Call (.Name "reversed" p) [e] [] pos) (iRevL X.K te):=by
 intro oq s σ H R I h;have ha:PA X [e] (tCons te tNil):=qb he qd hs;refine Hz (XO I hg hm FY (vf (thn (ha pos oq s σ H (λvs H2=>match vs with| [x]=>∃a xs,x= .ref a/\SqL X.K H2 a xs/\R (IrvL X.K a xs.length) H2|_=>False) I h) λus s2 zq=> ?_) (by rw [hs];rfl) ()));erw[zq,vs,H2,U,r1,q1]
 match vs,r1,q1 with
 | [x],r1,q1=>
 erw[q1,a,xs,rfl,hA,q];erw[jH r1,u,rfl,ru];cases ru;erw[U.list hA,its,ra,pa,za];have hl:=ra.length;refine F0 pa.isList ?_;have O:(s2.heap.push (GG a ((its.toArray.size:Int)-1))).IsRevIter s2.heap.objs.size a ((its.toArray.size:Int)-1):=⟨_,uC _ rfl,1,1⟩;refine Fy O ?_;refine⟨_,[s2.heap.objs.size],_,_,H2,1,U.kept (t':=s2.toks) (λb o e=>ud _ e),turn_revL a _ xs.length,[uN _:?_],λx hx=> ?_,q⟩
 ·simpa [hl] using O
 ·have e:x=s2.heap.objs.size:=by simpa using hx
  subst e;exact U.fpOk (uh _) (U.hok.fresh (uh _))
end
section
variable {prog:o9}{w:og}{A:oh}{E:o6->o7->Prop}{s:o7}{I l:o3}{items:Array o6}
theorem rev_extend {R:gX->o7->Prop}(hh:A.handled=U_)(ag:l≠I)(aa:s.heap.IsRevIter I l ((items.size:Int)-1))(hl:s.heap.IsList l items)(S:o3)(ac:S≠I)(ah:S≠l)(res:o6)(c₀:Nat)(hS:s.heap.get? S=u_ {cls:= .type "list",data:= .seq #[] c₀})
  (hR:∀s' O c',Moved [S,I] (λa b=>b=a) s s'->s'.heap.get? S=u_ {cls:= .type "list",dict:=U_,data:= .seq O c',slots:= #[]}->T5 (λi v=>items[items.size-1-i]? =u_ v) O items.size->R (.ok (.ret res)) s') (hn:items.size<=Vb):
  V8 #[w,w] A.in1 (Hk (.ref S) (.ref I) res)
   (λfin s'=>match fin with| .done f=>R (.ok f) s'| .again c'=>c'.quiet=v_/\VD #[w,w] A c' R s') (λe s'=>R (.error e) s') s:=by
 have W:=(Walks.listRev (prog:=prog) (w:=w) (A:=A.in1) hh I l ag items).toS;have ad:(0<=items.size/\s.heap.IsRevIter I l ((items.size:Int)-1-((0:Nat):Int))/\s.heap.IsList l items):=⟨uN _,by simpa using aa,hl⟩
 have ak:S∉ [I,l]:=λm=>by
  rcases A8.mp m with e|m
  ·exact ac e
  ·exact ah (A9.mp m)
 have U:s.TypeIs (.ref I) "list_reverseiterator":=let⟨o,e,c,_⟩:=aa;[o:e:c];have h1:Rv (.ref S) (.ref I)=false:=by simp [Rv,ac]
 unfold Hk;refine A6 (VZ U ?_);rw [A4 (by rw [h1];decide)]
 refine A6 (W.self 0 _ _ _ ad ?_);refine A6 (VF ?_);unfold pB;refine A6 (tM U nolen_lri ?_);show V8 _ A.in1 (specialOf (Ve I) (G9 "__length_hint__")>>=_) _ _ _;refine A6 (tM U hint_lri ?_)
 (generalize ae:("list_reverseiterator.__length_hint__":String)=al;wp_delta;rw [show splitId al=u_ ("list_reverseiterator","__length_hint__") from by subst ae;decide+kernel];subst ae)
 refine A6 (UE (b:=v_) U (by rw [Tw];kernel_rfl) ?_)
 refine uw ?_;rw [A4 ()]
 exact uw [Hd PySem.F.plain_extend_loop _:codeAny_extend_loopS W hn _ ak _ items.size 0 _ _ _ rfl (uN _) ad hS (ItemsOf.nil _) λs' O c' hm am af=>hR s' O c' hm am af]
theorem rev_list {Q:o6->o7->Prop}(hh:A.handled=U_)(ad:l≠I)(aa:s.heap.IsRevIter I l ((items.size:Int)-1))(hl:s.heap.IsList l items)(hn:items.size<=Vb)
  (hQ:∀h' tk O c',(∀b o,b≠I->s.heap.get? b=u_ o->h'.get? b=u_ o)->h'.get? s.heap.objs.size=u_ {cls:= .type "list",dict:=U_,data:= .seq O c',slots:= #[]}->T5 (λi v=>items[items.size-1-i]? =u_ v) O items.size->Q (.ref s.heap.objs.size) {s with heap:=h',toks:=tk}):
  V8 #[w,w] A (call (.type "list") [.ref I]) Q E s:=by
 have hI:I<s.heap.objs.size:=let⟨_,e,_⟩:=aa;uA e;have hL:l<s.heap.objs.size:=let⟨_,e,_⟩:=hl;uA e;refine tj (Q₁:=λobj s₁=>obj= .ref s.heap.objs.size/\s₁={s with heap:=s.heap.push {cls:= .type "list",data:= .seq #[]}}) PySem.F.called_list (PySem.F.typeCall_list_1 _) PySem.F.entry_list_init
  (code_list_new _ [1:1]) λobj s₁ h₁=> ?_
 erw[h₁,rfl,rfl];have hS:(s.heap.push {cls:= .type "list",data:= .seq #[]}).get? s.heap.objs.size=u_ {cls:= .type "list",data:= .seq #[]}:=uC _ rfl;exists [_:hS:1],PySem.F.args_list_init_2 _ _;show V8 _ _ (do let old<-Rm (.ref s.heap.objs.size);pp (.ref s.heap.objs.size) (λ_=> #[]);letGo old.toList.reverse;Hk (.ref s.heap.objs.size) (.ref I) .none) _ _ _
 refine A6 ?_;unfold Rm;refine A6 (U8 hS rfl (uw ?_));show V8 _ _ (updateSeq s.heap.objs.size (λ_=> #[])>>=λ_=>letGo (#[]:Array o6).toList.reverse>>=λ_=>Hk (.ref s.heap.objs.size) (.ref I) .none) _ _ _;refine A6 (wpAny_updateSeq hS rfl ?_);have ae:=Hv (Gi (λ_=>(#[]:Array o6))) hS rfl;have U:∀b o,s.heap.get? b=u_ o->((s.heap.push {cls:= .type "list",data:= .seq #[]}).update s.heap.objs.size (Gi (λ_=>(#[]:Array o6)))).get? b=u_ o:=
  λb o e=>(Uk _ _ (vU (uA e))).trans (ud _ e)
 refine A6 (tq ?_);refine rev_extend (A:=A.in1) (items:=items) hh ad (aa.at λo e=>U I o e) (hl.at λo e=>U l o e) s.heap.objs.size (vU hI) (vU hL) .none _ ae (λs' O c' hm af ac=> ?_) hn;rw [Moved.eq_with hm];refine[1:hQ s'.heap s'.toks O c' (λb o hb e=>hm.heap b o (λm=> ?_) (U b o e)) af ac];rcases A8.mp m with e'|m
 ·exact uL (uA e) e'
 ·exact hb (A9.mp m)
end
inductive ItLstRev (K:PySem.W.Frag) (Q:VK) (v:V) (H1:Hp):Prop
 |mk (l:_) (ys:_) (_:v= .ref l) (_:SqL K H1 l ys) (_:∀t,H1 t=U_->Q (.ref t) (upd H1 t (.lst ys.reverse)))
noncomputable def tLstRev (K:o0)(te:TE):TE:=λσ H Q=>te σ H λv H1=>ItLstRev K Q v H1
section
variable {X:Cx}
theorem pe_lstRev {x y:Str}{e:Expr}{te:TE}{p p2 pos cpos:Pos}(hc:X.calm=v_)(hg:Gl X x)(hm:X.mg x=U_)(hv:gW x=u_ (.type "list"))(ae:Gl X y)(af:X.mg y=U_)(ag:gW y=u_ (.type "reversed"))(hp:PE X e te)
  (hn:x≠"__name__") (ah:(x==("__debug__":Str))=V7) (ak:y≠"__name__") (U:(y==("__debug__":Str))=V7)
  (he:Vd [.Call (.Name y p2) [e] [] cpos] X.env=(V7,eval (.Call (.Name y p2) [e] [] cpos) X.env)::Vd [] X.env) (al:(Vk pos (Vd [] X.env)).any (·.1)=V7)
  (aa:Vd [e] X.env=(V7,eval e X.env)::Vd [] X.env) (ac:(Vk cpos (Vd [] X.env)).any (·.1)=V7):
  PE X (.Call (.Name x p) [.Call (.Name y p2) [e] [] cpos] [] pos) (tLstRev X.K te):=by
 intro oq s σ H Q I h;refine vZ (XO I hg hm hv ?_ hn ah);refine vf ?_ he al;rw [he];show V8 _ _ (h_ ((V7,eval (.Call (.Name y p2) [e] [] cpos) X.env)::Vk pos (Vd [] X.env))) _ _ s;refine vO ?_;refine vZ (XO I ae af ag ?_ ak U);refine vf ?_ aa ac;rw [aa];show V8 _ _ (h_ ((V7,eval e X.env)::Vk cpos (Vd [] X.env))) _ _ s;refine vO (thn (hp oq s σ H _ I h) λv s1 ⟨x1,H1,I1,r1,l,ys,ex,hl,q⟩=>Uc ?_);subst ex;cases r1;erw[I1.list hl,its,rv,pl,hz];have au:=rv.length;refine F0 pl.isList (Uc ?_);have am:(s1.heap.push (GG l ((its.toArray.size:Int)-1))).IsRevIter s1.heap.objs.size l ((its.toArray.size:Int)-1):=⟨_,uC _ rfl,1,1⟩;have ao:(s1.heap.push (GG l ((its.toArray.size:Int)-1))).IsList l its.toArray:=pl.isList.at λo z=>ud _ z;have ap:l≠s1.heap.objs.size:=let⟨_,z,_⟩:=pl.isList;uL (uA z);refine uS (n:=1) I1.tk ?_;refine rev_list (s:={s1 with heap:=s1.heap.push (GG l ((its.toArray.size:Int)-1))}) (I1.ok.hd hc) ap am ao (by rw [uj];omega) λh' tk O c k1 k2 k3 htk=> ?_
 have aw:O.size=its.length:=by have:=k3.1;simpa using this
 have k0:∀b u,s1.heap.get? b=u_ u->h'.get? b=u_ u:=λb u z=>k1 b u (uL (uA z)) (ud _ z);have hsz:s1.heap.objs.size<=(s1.heap.push (GG l ((its.toArray.size:Int)-1))).objs.size:=by rw [vt];exact GQ _
 refine⟨.ref _,_,I1.laid (t':=tk) (o:= .lst ys.reverse) (a:=(s1.heap.push (GG l ((its.toArray.size:Int)-1))).objs.size) k0 hsz ⟨by rwa [vJ],O.toList,c,?_,by rw [Array.toArray_toList];exact k2⟩ htk,1,q _ (I1.hok.fresh hsz)⟩
 refine XD (by rw [vJ,uU (xs:=O)];omega) λj a v ha aq=> ?_
 have hj:j<ys.length:=by
  have:=(Ae.mp ha).1
  rwa [vJ] at this
 rw [List.getElem?_reverse hj] at ha;have ad:its.toArray[its.toArray.size-1-j]? =u_ v:=k3.2 j v (by rwa [<-U1])
 have e6:its.toArray.size-1-j=ys.length-1-j:=by simp;omega
 rw [e6] at ad;erw[rv.get ha,u,eu,ru];have:its[ys.length-1-j]? =u_ v:=by simpa using ad
 rw [this] at eu;cases eu;exact ru
inductive ItStpV (K:PySem.W.Frag) (Q:VK) (x:V) (y:V) (H3:Hp):Prop
 |mk (k:Int) (_:y= .int k) (_:k≠0) (a:_) (xs:_) (_:x= .ref a) (_:SqL K H3 a xs) (_:∀ys p,ys.length<=xs.length->(∀y∈ys,y∈xs)->H3 p=U_->Q (.ref p) (upd H3 p (.lst ys)))
noncomputable def tStpV (K:o0)(te:TE)(tl:TO)(tf:TE):TE:=λσ H Q=>te σ H λx H1=>tl σ H1 λ_ H2=>tf σ H2 λy H3=>ItStpV K Q x y H3
theorem pe_stepLV {e f:Expr}{te tf:TE}{lo:om Expr}{tl:TO}{pos p2}(he:PE X e te)(hl:PO X lo tl)(hf:PE X f tf)(U:GJ (.Slice lo U_ (u_ f) p2) V7=λv u=>HJ [v,u] (VI v u)):PE X (.Subscript e (.Slice lo U_ (u_ f) p2) pos) (tStpV X.K te tl tf):=by
 intro oq s σ H Q I h;refine Ha (thn (he oq s σ H _ I h) λv s1 zq=> ?_);erw[zq,x,H1,I1,r1,q1];refine FA (thn (hl oq s1 σ H1 _ I1 q1) λvl s2 zq=> ?_);erw[zq,lv,H2,I2,pl,q2];rw [tR];refine uw ?_;rw [Rz];refine thn (hf oq s2 σ H2 _ I2 q2) λu O h3=> ?_;erw[h3,y,H3,I3,r3,k,rfl,hk,a,xs,rfl,hH,q];erw[r3,tk,rfl];cases r1;have I4:Inv X oq σ H3 {O with heap:=O.heap.push {cls:= .type "slice",data:= .fields #[vl,.none,.int k tk]}}:=I3.kept (t':=O.toks) λb ob q=>ud _ q
 erw[I4.list hH,its,r,aa,hz];have ac:its.toArray.size=xs.length:=by rw [uj];exact r.length.symm
 show V8 #[X,X] X.A (HH e (.Slice lo U_ (u_ f) p2) (.ref a) (.ref O.heap.objs.size)) (EP X oq σ Q) X.xe {O with heap:=O.heap.push {cls:= .type "slice",data:= .fields #[vl,.none,.int k tk]}}
 refine Ho (ops:= [.ref a,.ref O.heap.objs.size]) aa.isList.typeIs slot_list_getitem.lookup ?_ (by rw [U])
 refine RU (st:=u_ k) aa.isList (Ry ..) pl .none (.int k tk) (by simpa using hk) ?_ (by rwa [ac])
 have hsz:=slicePick_size_le its.toArray lv U_ (u_ k);unfold HS at hsz⊢;generalize sliceRange (VQ lv U_ (u_ k) its.toArray.size).1 (VQ lv U_ (u_ k) its.toArray.size).2.1 (VQ lv U_ (u_ k) its.toArray.size).2.2=is at hsz⊢;have ep:is.filterMap (its.toArray[·]?)=is.filterMap (its[·]?):=by simp
 rw [ep] at hsz⊢;have vp:=wS r is;have ad:(is.filterMap (xs[·]?)).length<=xs.length:=by
  rw [vp.length];rwa [uj,uj,<-r.length] at hsz
 refine⟨.ref _,_,I4.laid (t':=O.toks) (o:= .lst (is.filterMap (xs[·]?))) (λb ob q=>ud _ q) (uh _) ⟨uI ad hz,_,(0),vp,uC _ rfl⟩,1,q _ _ ad (λy hy=> ?_) (I4.hok.fresh (uh _))⟩;erw[List.mem_filterMap.mp hy,i,_,hi];exact uQ hi
theorem Kl (hc:X.calm=v_):Ye X (.builtin "sorted") (λxs H Q=>∃(d:o3) (kvs:oj (Key×V)) (ls:oj Str),xs= [.ref d]/\Rd H d (.dK kvs)/\kvs.map (·.1)=ls.map V9/\ls.length<64/\∀(ms:oj Str) (q:o3),ms.Perm ls->Go ms=v_->H q=U_->Q (.ref q) (upd H q (.lst (ms.map V.str)))):=by
 intro oq s σ H xs us Q I r h;erw[h,d,kvs,ls,rfl,hd,hk,am,q];erw[jH r,u,rfl,ru];cases ru;erw[wf I.hok hd,hz,lo,vs,ae,dd];erw[id dd,o,es,ep,ho];have af:s.heap.DictAt (Qa X.prog X.w) d vs ep:=[o:es:ho];have aa:vs.length=ls.length:=by
  have h1:=congrArg Vz hk;rw [ua,ua] at h1;rw [<-ae.length,h1]
 refine uS (n:=1) I.tk ?_;refine PySem.Calls.call_function_entry TU TM Rp (Fj _) ?_;unfold Ge.«sorted»;refine A6 (m:=checkCount "sorted" 1 1 _) (uw ?_);refine A6 (PySem.W.kdu_collect (A:=X.A.in1) (PySem.W.kdl_dict lo) (I.ok.hd hc) af (by rw [aa,uB];omega) λh' tk U ag O=> ?_)
 have hS:He U.toList ls:=by
  refine Jk (XD (by rw [ua,uU];exact aa.symm.trans O.1.symm) λj x v hx hv=> ?_)
  rw [uE] at hx;cases ac:ls[j]? with
  |none=>rw [ac] at hx;cases hx
  |some z=>
   rw [ac] at hx;cases hx;obtain⟨k,y,e1,e2⟩:=O.2 j v (by rwa [<-U1])
   have e3:(kvs.map (·.1))[j]? =u_ k:=by
    rw [ae.keys,uE,e1]
    rfl
   rw [hk,uE,ac] at e3;cases e3;rcases Ql (show KF (V9 z) v=v_ from e2) with⟨i,t,e4,e5⟩|⟨z',t,e4,e5⟩
   ·cases e4
   ·cases e4;exact[t:e5]
 have ah:U.toList.length=ls.length:=by rw [uU,O.1,aa]
 refine A6 (Hu ?_ (by rw [ah,uB];omega))
 have ad:(h'.push (hZ "list" U.toList.toArray 0)).get? h'.objs.size=u_ (hZ "list" U.toList.toArray 0):=uC _ rfl;refine A6 (VF (vS rN [_:ad:1] rg (TB RT ad hS.keysOf (λv₁ v₂ rest e=>rV (by rwa [<-e])) () λak a1 a2=>[0:?_]) (Ri _)))
 refine uw [0:?_];erw[RA hS a1 a2,ms,b1,b2,b3];erw[Fi (out:=(arrOf ak).map (·.2)) ad,e,he];have al:ms.length=ls.length:=b2.length_eq;intro htk;have I':Inv X oq σ H {s with heap:=h',toks:=tk}:=I.kept ag
 refine⟨.ref h'.objs.size,_,I'.laid (t':=tk) (o:= .lst (ms.map V.str)) (λb u w=> ?_) (uh _) ⟨?_,_,e,Jp b1,he⟩,1,q ms _ b2 b3 (I'.hok.fresh (uh _))⟩
 ·have hb:=uA w;rw [Rj (uL hb) (by rw [size_push'];exact TV hb)]
  exact ud _ w
 ·rw [ua,al,uB];omega
end
end L2
namespace K23
open PySem L2 PyProof.Rows
open Builtin.Int (intBits)
noncomputable def top (i:Nat):Stmt:=PySem.Challenge.pw_askwright_k23_the_plain_order.main.body.getD i (.Pass ⟨(0),(0),(0),(0)⟩)
noncomputable abbrev wX:Stmt:=top 16
noncomputable abbrev Xp:Stmt:=top 17
noncomputable abbrev ZH:Stmt:=top 18
noncomputable abbrev Wj:Stmt:=top 20
noncomputable abbrev yX:Stmt:=top 21
noncomputable abbrev xG:Stmt:=top 22
noncomputable abbrev wq:Stmt:=top 28
noncomputable abbrev xZ:Stmt:=top 29
noncomputable abbrev Zz:Stmt:=top 30
noncomputable abbrev Jj:Stmt:=top 31
noncomputable abbrev Xd:Stmt:=top 32
noncomputable abbrev zL:Stmt:=top 33
noncomputable abbrev Z9:Stmt:=top 34
noncomputable abbrev xJ:Stmt:=top 37
noncomputable abbrev xB:Stmt:=top 38
noncomputable abbrev xD:Stmt:=top 39
noncomputable abbrev zn:Stmt:=top 40
noncomputable abbrev zd:Stmt:=top 41
noncomputable abbrev Xa:Stmt:=top 42
noncomputable abbrev JL:Stmt:=top 43
noncomputable abbrev xL:Stmt:=top 44
noncomputable abbrev xN:Stmt:=top 45
noncomputable abbrev zh:Stmt:=top 46
noncomputable abbrev xH:Stmt:=top 47
noncomputable abbrev Yx:Stmt:=top 49
noncomputable abbrev Yd:Stmt:=top 50
noncomputable abbrev Y4:Stmt:=Qe (top 51) 0
noncomputable abbrev jx:Stmt:=Qe (top 51) 1
noncomputable abbrev Yg:Stmt:=Qe (top 51) 2
noncomputable abbrev YK:Stmt:=Qe (top 51) 3
noncomputable abbrev YJ:Stmt:=Qe (top 51) 6
noncomputable abbrev Q8:Stmt:=Qe (top 51) 7
noncomputable abbrev Yi:Stmt:=Qe (top 51) 8
noncomputable abbrev Y5:Stmt:=Qe (top 51) 9
noncomputable abbrev Jb:Stmt:=Qe (top 53) 0
noncomputable abbrev jM:Stmt:=Qe (top 53) 1
noncomputable abbrev JU:Stmt:=Qe (top 53) 2
noncomputable abbrev Y6:Stmt:=Qe (top 53) 3
noncomputable abbrev JR:Stmt:=Qe (top 53) 4
noncomputable abbrev Jg:Stmt:=Qe (top 53) 5
noncomputable abbrev yP:Stmt:=Qe (top 54) 0
noncomputable abbrev QM:Stmt:=Qe (top 54) 1
noncomputable abbrev QL:Stmt:=Qe (top 54) 2
noncomputable abbrev yB:Stmt:=Qe (top 54) 3
noncomputable abbrev yk:Stmt:=Qe (top 54) 4
noncomputable abbrev yn:Stmt:=Qe (top 54) 5
noncomputable abbrev yJ:Stmt:=Qe (top 54) 6
noncomputable abbrev yL:Stmt:=Qe (top 54) 7
noncomputable abbrev QO:Stmt:=Qe (top 54) 8
noncomputable abbrev Yh:Stmt:=top 55
noncomputable abbrev xF:Stmt:=top 56
noncomputable abbrev Jm:Stmt:=top 57
noncomputable abbrev jJ:Stmt:=top 58
noncomputable abbrev Jy:Stmt:=top 59
noncomputable abbrev JH:Stmt:=top 60
noncomputable abbrev kY:Stmt:=top 61
noncomputable abbrev xy:Stmt:=top 64
noncomputable abbrev yZ:Stmt:=Qe (top 65) 0
noncomputable abbrev jq:Stmt:=Qe (top 65) 1
noncomputable abbrev ym:Stmt:=Qe (top 65) 2
noncomputable abbrev QQ:Stmt:=Qe (top 65) 3
noncomputable abbrev jA:Stmt:=top 66
noncomputable abbrev jt:Stmt:=top 68
noncomputable abbrev ZG:Stmt:=top 69
noncomputable abbrev zu:Stmt:=top 70
noncomputable abbrev zk:Stmt:=top 71
noncomputable abbrev J9:Stmt:=top 72
noncomputable abbrev J6:Stmt:=top 73
noncomputable abbrev xM:Stmt:=top 74
noncomputable abbrev J0:Stmt:=top 75
noncomputable abbrev Jx:Stmt:=top 76
noncomputable abbrev YE:Stmt:=top 77
noncomputable abbrev X6:Stmt:=top 78
noncomputable abbrev jw:Stmt:=top 79
noncomputable abbrev Yf:Stmt:=top 80
noncomputable abbrev Q5:Stmt:=top 81
noncomputable abbrev Xg:Stmt:=top 82
noncomputable abbrev YM:Stmt:=top 83
noncomputable abbrev QY:Stmt:=top 84
noncomputable abbrev Q6:Stmt:=top 85
noncomputable abbrev wG:Stmt:=top 86
noncomputable abbrev s_law:Stmt:=top 87
set_option genInjectivity false in
set_option genSizeOf false in
structure Ad where
 f_is_text:o3
 d_is_text:Va
 f_is_tree:o3
 d_is_tree:Va
 f_is_name:o3
 d_is_name:Va
 f_is_pair:o3
 d_is_pair:Va
 ji:o3
 jo:Va
 wC:o3
 wD:Va
 f_part_of:o3
 d_part_of:Va
 wV:o3
 Wl:Va
 f_row_of:o3
 d_row_of:Va
 zN:o3
 Za:Va
 Wc:o3
 ZE:Va
 W2:o3
 WH:Va
 f_is_rule:o3
 d_is_rule:Va
 xY:o3
 Wk:Va
 Xh:o3
 ZJ:Va
 xS:o3
 Z5:Va
 zx:o3
 WD:Va
 zg:o3
 WJ:Va
 xR:o3
 ZO:Va
 Jh:o3
 Ze:Va
 xV:o3
 Z1:Va
 xO:o3
 Z6:Va
 zC:o3
 W7:Va
 xU:o3
 ZQ:Va
 Jt:o3
 JD:Va
 jV:o3
 jP:Va
 Y3:o3
 xv:Va
 XE:o3
 Xs:Va
 jT:o3
 jN:Va
 JI:o3
 JO:Va
 Ju:o3
 JE:Va
 Yl:o3
 Yn:Va
 jU:o3
 jX:Va
 xk:o3
 xj:Va
 JM:o3
 zW:Va
 XF:o3
 XR:Va
 zP:o3
 zQ:Va
 xu:o3
 xq:Va
 zZ:o3
 Zc:Va
 zY:o3
 zU:Va
 yO:o3
 jm:Va
 yu:o3
 yw:Va
 yE:o3
 yH:Va
 YT:o3
 YN:Va
 YC:o3
 YL:Va
 Yr:o3
 YF:Va
 YO:o3
 YW:Va
 YZ:o3
 YS:Va
 yI:o3
 yy:Va
 jQ:o3
 jS:Va
 Z7:o3
 ZI:Va
 zV:o3
 Zf:Va
 X3:o3
 XN:Va
 Zn:o3
 Zd:Va
 zS:o3
 zX:Va
 f_met_by:o3
 d_met_by:Va
 ZV:o3
 wO:Va
 Y7:o3
 xn:Va
 zp:o3
 zq:Va
 Yz:o3
 Yu:Va
 YD:o3
 Yt:Va
 XY:o3
 XM:Va
 Xq:o3
 Xn:Va
 f_law_pot:o3
 d_law_pot:Va
 WZ:o3
 WR:Va
 WC:o3
 kn:Va
 WN:o3
 kl:Va
 WT:o3
 ke:Va
 ZT:o3
 wF:Va
 WW:o3
 WI:Va
 Zj:o3
 zO:Va
 JQ:o3
 JN:Va
 W1:o3
 WV:Va
 XT:o3
 Xw:Va
 jR:o3
 jO:Va
 jp:o3
 jr:Va
 ZL:o3
 wZ:Va
 JF:o3
 Jr:Va
 JW:o3
 Je:Va
 je:o3
 jc:Va
 Jw:o3
 JT:Va
 f_law:o3
 d_law:Va
 qo:o3
 qK:o3
 qp:o3
 qO:o3
structure Tx (K:o0)(mg:Str->om o6)(a:Ad):Prop where
 g_is_text:FF K mg "is_text" wX ["value"] a.f_is_text a.d_is_text
 g_is_tree:FF K mg "is_tree" Xp ["value"] a.f_is_tree a.d_is_tree
 g_is_name:FF K mg "is_name" ZH ["value"] a.f_is_name a.d_is_name
 g_is_pair:FF K mg "is_pair" Wj ["value"] a.f_is_pair a.d_is_pair
 g_is_row_of_names:FF K mg "is_row_of_names" yX ["tree"] a.ji a.jo
 g_is_answer:FF K mg "is_answer" xG ["ask","answer"] a.wC a.wD
 g_part_of:FF K mg "part_of" wq ["kind","piece","count"] a.f_part_of a.d_part_of
 g_pieces_of:FF K mg "pieces_of" xZ ["line","form"] a.wV a.Wl
 g_row_of:FF K mg "row_of" Zz ["line","count"] a.f_row_of a.d_row_of
 g_read_lines:FF K mg "read_lines" Jj ["value"] a.zN a.Za
 g_rule_rows:FF K mg "rule_rows" Xd ["tree"] a.Wc a.ZE
 g_bad_line:FF K mg "bad_line" zL ["tree"] a.W2 a.WH
 g_is_rule:FF K mg "is_rule" Z9 ["value"] a.f_is_rule a.d_is_rule
 g_text_made:FF K mg "text_made" xJ ["boxes","own","parts"] a.xY a.Wk
 g_self_made:FF K mg "self_made" xB ["boxes","own","parts"] a.Xh a.ZJ
 g_copy_made:FF K mg "copy_made" xD ["boxes","own","parts"] a.xS a.Z5
 g_row_made:FF K mg "row_made" zn ["boxes","own","parts"] a.zx a.WD
 g_put_made:FF K mg "put_made" zd ["boxes","own","parts"] a.zg a.WJ
 g_join_made:FF K mg "join_made" Xa ["boxes","own","parts"] a.xR a.ZO
 g_first_made:FF K mg "first_made" JL ["boxes","own","parts"] a.Jh a.Ze
 g_rest_made:FF K mg "rest_made" xL ["boxes","own","parts"] a.xV a.Z1
 g_size_made:FF K mg "size_made" xN ["boxes","own","parts"] a.xO a.Z6
 g_cut_made:FF K mg "cut_made" zh ["boxes","own","parts"] a.zC a.W7
 g_glue_made:FF K mg "glue_made" xH ["boxes","own","parts"] a.xU a.ZQ
 g_is_jump_taken:FF K mg "is_jump_taken" Yx ["boxes","word","parts"] a.Jt a.JD
 g_asked_or_fault:FF K mg "asked_or_fault" Yd ["word","held"] a.jV a.jP
 g_Machine_init:FM K a.qo "__init__" "Machine.__init__" Y4 ["self","rule","own"] a.Y3 a.xv
 g_Machine_now:FM K a.qo "now" "Machine.now" jx ["self"] a.XE a.Xs
 g_Machine_answer:FM K a.qo "answer" "Machine.answer" Yg ["self","tree"] a.jT a.jN
 g_Machine_asked:FM K a.qo "asked" "Machine.asked" YK ["self"] a.JI a.JO
 g_Machine_go_on:FM K a.qo "go_on" "Machine.go_on" YJ ["self"] a.Ju a.JE
 g_Machine_is_waiting:FM K a.qo "is_waiting" "Machine.is_waiting" Q8 ["self"] a.Yl a.Yn
 g_Machine_do_row:FM K a.qo "do_row" "Machine.do_row" Yi ["self","row"] a.jU a.jX
 g_Machine_hold:FM K a.qo "hold" "Machine.hold" Y5 ["self","box","tree"] a.xk a.xj
 g_Going_init:FM K a.qK "__init__" "Going.__init__" Jb ["self","name","source","order"] a.JM a.zW
 g_Going_begin:FM K a.qK "begin" "Going.begin" jM ["self","rule"] a.XF a.XR
 g_Going_look:FM K a.qK "look" "Going.look" JU ["self"] a.zP a.zQ
 g_Going_wanted:FM K a.qK "wanted" "Going.wanted" Y6 ["self"] a.xu a.xq
 g_Going_take:FM K a.qK "take" "Going.take" JR ["self","answer"] a.zZ a.Zc
 g_Going_full:FM K a.qK "full" "Going.full" Jg ["self"] a.zY a.zU
 g_PlainOrder_init:FM K a.qp "__init__" "PlainOrder.__init__" yP ["self","project"] a.yO a.jm
 g_PlainOrder_begin_anew:FM K a.qp "begin_anew" "PlainOrder.begin_anew" QM ["self","project"] a.yu a.yw
 g_PlainOrder_go_through:FM K a.qp "go_through" "PlainOrder.go_through" QL ["self","name"] a.yE a.yH
 g_PlainOrder_enter:FM K a.qp "enter" "PlainOrder.enter" yB ["self","name"] a.YT a.YN
 g_PlainOrder_settle:FM K a.qp "settle" "PlainOrder.settle" yk ["self","going"] a.YC a.YL
 g_PlainOrder_runner:FM K a.qp "runner" "PlainOrder.runner" yn ["self","rule","own"] a.Yr a.YF
 g_PlainOrder_leave:FM K a.qp "leave" "PlainOrder.leave" yJ ["self","going"] a.YO a.YW
 g_PlainOrder_go_on:FM K a.qp "go_on" "PlainOrder.go_on" yL ["self","going"] a.YZ a.YS
 g_PlainOrder_answer_yet:FM K a.qp "answer_yet" "PlainOrder.answer_yet" QO ["self","name"] a.yI a.yy
 g_answer_at_once:FF K mg "answer_at_once" Yh ["source"] a.jQ a.jS
 g_answer_by:FF K mg "answer_by" xF ["end"] a.Z7 a.ZI
 g_check_name:FF K mg "check_name" Jm ["name"] a.zV a.Zf
 g_check_names:FF K mg "check_names" jJ ["names"] a.X3 a.XN
 g_order_from:FF K mg "order_from" Jy ["project","name"] a.Zn a.Zd
 g_order_over:FF K mg "order_over" JH ["project","names"] a.zS a.zX
 g_met_by:FF K mg "met_by" kY ["project","name"] a.f_met_by a.d_met_by
 g_is_source:FF K mg "is_source" xy ["value"] a.ZV a.wO
 g_Project_init:FM K a.qO "__init__" "Project.__init__" yZ ["self","sources"] a.Y7 a.xn
 g_Project_sources:FM K a.qO "sources" "Project.sources" jq ["self"] a.zp a.zq
 g_Project_source_of:FM K a.qO "source_of" "Project.source_of" ym ["self","name"] a.Yz a.Yu
 g_Project_looked_up:FM K a.qO "looked_up" "Project.looked_up" QQ ["self","ask"] a.YD a.Yt
 g_longest_row:FF K mg "longest_row" jA ["names"] a.XY a.XM
 g_law_cell_at:FF K mg "_law_cell_at" jt ["script","k"] a.Xq a.Xn
 g_law_pot:FF K mg "_law_pot" ZG ["cell","salt"] a.f_law_pot a.d_law_pot
 g_law_take:FF K mg "_law_take" zu ["pot","many"] a.WZ a.WR
 g_law_word:FF K mg "_law_word" zk ["pot","names"] a.WC a.kn
 g_law_line:FF K mg "_law_line" J9 ["pot","names","many","k"] a.WN a.kl
 g_law_rule:FF K mg "_law_rule" J6 ["pot","names"] a.WT a.ke
 g_law_maker:FF K mg "_law_maker" xM ["pot","names"] a.ZT a.wF
 g_law_leaf:FF K mg "_law_leaf" J0 ["pot","names"] a.WW a.WI
 g_law_source:FF K mg "_law_source" Jx ["pot","names"] a.Zj a.zO
 g_law_all_names:FF K mg "_law_all_names" YE ["script"] a.JQ a.JN
 g_law_link:FF K mg "_law_link" X6 ["pot","names","k"] a.W1 a.WV
 g_law_sources:FF K mg "_law_sources" jw ["script"] a.XT a.Xw
 g_law_wide_names:FF K mg "_law_wide_names" Yf ["script"] a.jR a.jO
 g_law_drawn_names:FF K mg "_law_drawn_names" Q5 ["script","salt","many"] a.jp a.jr
 g_law_tried:FF K mg "_law_tried" Xg ["sources","name","values"] a.ZL a.wZ
 g_law_looked_up:FF K mg "_law_looked_up" YM ["sources","kind","text"] a.JF a.Jr
 g_law_by_rounds:FF K mg "_law_by_rounds" QY ["sources"] a.JW a.Je
 g_law_asked_names:FF K mg "_law_asked_names" Q6 ["run"] a.je a.jc
 g_law_met:FF K mg "_law_met" wG ["runs","name","begun","left"] a.Jw a.JT
 g_law:FF K mg "law" s_law ["script"] a.f_law a.d_law
 qr:Cls K a.qo
 M_Machine:Mk K a.qo a.Y3
 m_Machine:mg "Machine"=u_ (.ref a.qo)
 y8:QG K a.qo "rows"
 Ww:QG K a.qo "rule"
 XI:QG K a.qo "own"
 Qw:QG K a.qo "boxes"
 Qi:QG K a.qo "place"
 Q9:QG K a.qo "done"
 YB:QG K a.qo "given"
 qL:QG K a.qo "there"
 qR:Cls K a.qK
 M_Going:Mk K a.qK a.JM
 m_Going:mg "Going"=u_ (.ref a.qK)
 Yc:QG K a.qK "name"
 Xx:QG K a.qK "order"
 yG:QG K a.qK "made_by"
 yT:QG K a.qK "rule_asks"
 qW:QG K a.qK "rule_run"
 Q2:QG K a.qK "end"
 qy:Cls K a.qp
 M_PlainOrder:Mk K a.qp a.yO
 m_PlainOrder:mg "PlainOrder"=u_ (.ref a.qp)
 Qb:QG K a.qp "given_project"
 Qz:QG K a.qp "stack"
 Qx:QG K a.qp "under_way"
 QW:QG K a.qp "full_runs"
 QA:QG K a.qp "found"
 YG:Cls K a.qO
 M_Project:Mk K a.qO a.Y7
 m_Project:mg "Project"=u_ (.ref a.qO)
 Q4:QG K a.qO "by_name"
 m_MOST_SIGNS:∃t,mg "MOST_SIGNS"=u_ (.int 300 t)
 m_MOST_PARTS:∃t,mg "MOST_PARTS"=u_ (.int 40 t)
 m_MOST_SIZE:∃t,mg "MOST_SIZE"=u_ (.int 600 t)
 m_MOST_DEPTH:∃t,mg "MOST_DEPTH"=u_ (.int 12 t)
 zw:∃t,mg "MOST_NAME_SIGNS"=u_ (.int 24 t)
 m_LETTERS:∃t,mg "LETTERS"=u_ (.str "abcdefghijklmnopqrstuvwxyz" t)
 m_NAME_SIGNS:∃t,mg "NAME_SIGNS"=u_ (.str "abcdefghijklmnopqrstuvwxyz0123456789./" t)
 m_PERCENT:∃t,mg "PERCENT"=u_ (.int 37 t)
 m_MOST_LINES:∃t,mg "MOST_LINES"=u_ (.int 40 t)
 m_MOST_DONE:∃t,mg "MOST_DONE"=u_ (.int 300 t)
 m_MOST_NAMES:∃t,mg "MOST_NAMES"=u_ (.int 60 t)
 z_ord:mg "ord"=U_
 yt:mg "len"=U_
 qS:mg "isinstance"=U_
 zE:mg "str"=U_
 QN:mg "tuple"=U_
 z_all:mg "all"=U_
 z_int:mg "int"=U_
 Jq:mg "range"=U_
 z_zip:mg "zip"=U_
 z_dict:mg "dict"=U_
 z_sorted:mg "sorted"=U_
 z_abs:mg "abs"=U_
 z_min:mg "min"=U_
 z_sum:mg "sum"=U_
 z_max:mg "max"=U_
 W3:mg "reversed"=U_
 z_list:mg "list"=U_
theorem WF:qu ["value","sign"] ["value"] (qj wX):=by trivial
theorem yo:qu ["value","size","waiting","pair","part","depth"] ["value"] (qj Xp):=by trivial
theorem sc_is_name:qu ["value"] ["value"] (qj ZH):=by trivial
theorem sc_is_pair:qu ["value"] ["value"] (qj Wj):=by trivial
theorem Xy:qu ["tree"] ["tree"] (qj yX):=by trivial
theorem sc_is_answer:qu ["ask","answer"] ["ask","answer"] (qj xG):=by trivial
theorem W4:qu ["kind","piece","count","numbers"] ["kind","piece","count"] (qj wq):=by trivial
theorem sc_pieces_of:qu ["line","form"] ["line","form"] (qj xZ):=by trivial
theorem JX:qu ["line","count","word","form","pieces","parts"] ["line","count"] (qj Zz):=by trivial
theorem Yp:qu ["value","rows","line","row"] ["value"] (qj Jj):=by trivial
theorem Zb:qu ["tree","read"] ["tree"] (qj Xd):=by trivial
theorem sc_bad_line:qu ["tree"] ["tree"] (qj zL):=by trivial
theorem sc_is_rule:qu ["value"] ["value"] (qj Z9):=by trivial
theorem sc_text_made:qu ["boxes","own","parts"] ["boxes","own","parts"] (qj xJ):=by trivial
theorem sc_self_made:qu ["boxes","own","parts"] ["boxes","own","parts"] (qj xB):=by trivial
theorem sc_copy_made:qu ["boxes","own","parts"] ["boxes","own","parts"] (qj xD):=by trivial
theorem sc_row_made:qu ["boxes","own","parts"] ["boxes","own","parts"] (qj zn):=by trivial
theorem Z2:qu ["boxes","own","parts","row"] ["boxes","own","parts"] (qj zd):=by trivial
theorem JV:qu ["boxes","own","parts","one","other"] ["boxes","own","parts"] (qj Xa):=by trivial
theorem XJ:qu ["boxes","own","parts","whole"] ["boxes","own","parts"] (qj JL):=by trivial
theorem zR:qu ["boxes","own","parts","whole"] ["boxes","own","parts"] (qj xL):=by trivial
theorem sc_size_made:qu ["boxes","own","parts"] ["boxes","own","parts"] (qj xN):=by trivial
theorem Xj:qu ["boxes","own","parts","whole","between"] ["boxes","own","parts"] (qj zh):=by trivial
theorem JY:qu ["boxes","own","parts","row","between"] ["boxes","own","parts"] (qj xH):=by trivial
theorem Zv:qu ["boxes","word","parts"] ["boxes","word","parts"] (qj Yx):=by trivial
theorem zo:qu ["word","held"] ["word","held"] (qj Yd):=by trivial
theorem ZU:qu ["self","rule","own"] ["self","rule","own"] (qj Y4):=by trivial
theorem Ws:qu ["self"] ["self"] (qj jx):=by trivial
theorem jk:qu ["self","tree","ask"] ["self","tree"] (qj Yg):=by trivial
theorem Zr:qu ["self"] ["self"] (qj YK):=by trivial
theorem Zp:qu ["self"] ["self"] (qj YJ):=by trivial
theorem JP:qu ["self"] ["self"] (qj Q8):=by trivial
theorem yV:qu ["self","row","word","parts"] ["self","row"] (qj Yi):=by trivial
theorem wE:qu ["self","box","tree"] ["self","box","tree"] (qj Y5):=by trivial
theorem Ku:qu ["self","name","source","order"] ["self","name","source","order"] (qj Jb):=by trivial
theorem Wz:qu ["self","rule"] ["self","rule"] (qj jM):=by trivial
theorem KC:qu ["self"] ["self"] (qj JU):=by trivial
theorem ZR:qu ["self"] ["self"] (qj Y6):=by trivial
theorem Kr:qu ["self","answer"] ["self","answer"] (qj JR):=by trivial
theorem XW:qu ["self","asks"] ["self"] (qj Jg):=by trivial
theorem XQ:qu ["self","project"] ["self","project"] (qj yP):=by trivial
theorem ja:qu ["self","project"] ["self","project"] (qj QM):=by trivial
theorem QI:qu ["self","name","top","missing"] ["self","name"] (qj QL):=by trivial
theorem Xm:qu ["self","name"] ["self","name"] (qj yB):=by trivial
theorem xf:qu ["self","going"] ["self","going"] (qj yk):=by trivial
theorem xc:qu ["self","rule","own"] ["self","rule","own"] (qj yn):=by trivial
theorem xQ:qu ["self","going"] ["self","going"] (qj yJ):=by trivial
theorem yi:qu ["self","going","ask","answer"] ["self","going"] (qj yL):=by trivial
theorem yp:qu ["self","name","at_once"] ["self","name"] (qj QO):=by trivial
theorem zl:qu ["source"] ["source"] (qj Yh):=by trivial
theorem sc_answer_by:qu ["end"] ["end"] (qj xF):=by trivial
theorem k8:qu ["name"] ["name"] (qj Jm):=by trivial
theorem xm:qu ["names","name"] ["names"] (qj jJ):=by trivial
theorem Ks:qu ["project","name"] ["project","name"] (qj Jy):=by trivial
theorem jF:qu ["project","names","order","name"] ["project","names"] (qj JH):=by trivial
theorem sc_met_by:qu ["project","name"] ["project","name"] (qj kY):=by trivial
theorem sc_is_source:qu ["value"] ["value"] (qj xy):=by trivial
theorem yA:qu ["self","sources","by_name","name","source"] ["self","sources"] (qj yZ):=by trivial
theorem xh:qu ["self","name"] ["self","name"] (qj ym):=by trivial
theorem xi:qu ["self","ask"] ["self","ask"] (qj QQ):=by trivial
theorem y7:qu ["names","row","name"] ["names"] (qj jA):=by trivial
theorem Wr:qu ["script","k"] ["script","k"] (qj jt):=by trivial
theorem Yq:qu ["cell","salt","step","big","k"] ["cell","salt"] (qj ZG):=by trivial
theorem wj:qu ["pot","many","digit"] ["pot","many"] (qj zu):=by trivial
theorem Wg:qu ["pot","names","some"] ["pot","names"] (qj zk):=by trivial
theorem yj:qu ["pot","names","many","k","words","word","one","two","three","at"] ["pot","names","many","k"] (qj J9):=by trivial
theorem ju:qu ["pot","names","body","many","lines"] ["pot","names"] (qj J6):=by trivial
theorem YX:qu ["pot","names","asked","lines"] ["pot","names"] (qj xM):=by trivial
theorem wb:qu ["pot","names","kind"] ["pot","names"] (qj J0):=by trivial
theorem XU:qu ["pot","names","kind"] ["pot","names"] (qj Jx):=by trivial
theorem Yk:qu ["script","first","names"] ["script"] (qj YE):=by trivial
theorem wY:qu ["pot","names","k","other"] ["pot","names","k"] (qj X6):=by trivial
theorem QV:qu ["script","names","pairs","k","cell","pot"] ["script"] (qj jw):=by trivial
theorem jl:qu ["script","names"] ["script"] (qj Yf):=by trivial
theorem yC:qu ["script","salt","many","pot","names"] ["script","salt","many"] (qj Q5):=by trivial
theorem QC:qu ["sources","name","values","source","rule","asks","machine","kind","text"] ["sources","name","values"] (qj Xg):=by trivial
theorem yg:qu ["sources","kind","text","row","name"] ["sources","kind","text"] (qj YM):=by trivial
theorem qP:qu ["sources","values","name","waiting","grown","run","runs"] ["sources"] (qj QY):=by trivial
theorem YQ:qu ["run","found"] ["run"] (qj Q6):=by trivial
theorem zG:qu ["runs","name","begun","left","other"] ["runs","name","begun","left"] (qj wG):=by trivial
theorem xt:qu ["script","pairs","sources","project","runs","names","name","left","found"] ["script"] (qj s_law):=by trivial
structure Ga where
 (boxes asking forms makers br bn:o3)
noncomputable def NOMK:oj Str:= ["ask","has","names","go","like","rowed","none","say","fault"]
structure Fx (K:o0)(w:og)(mg:Str->om o6)(g:Ga)(a:Ad):Prop where
 m_BOXES:mg "BOXES"=u_ (.ref g.boxes)
 m_ASKING:mg "ASKING"=u_ (.ref g.asking)
 m_FORMS:mg "FORMS"=u_ (.ref g.forms)
 m_MAKERS:mg "MAKERS"=u_ (.ref g.makers)
 boxes:∀H,SqT K H g.boxes (BX.map V.str)
 asking:∀H,SqT K H g.asking [.str "ask",.str "has",.str "names"]
 kd:KDict K w g.forms
 forms:∀x∈FRM,∃q,PySem.W.nsIn K g.forms x.1=u_ (u_ (.ref q))/\∀H,SqT K H q (x.2.map λk=>V.str k.t)
 km:KDict K w g.makers
 k_text:PySem.W.nsIn K g.makers "text"=u_ (u_ (.ref a.xY))
 k_self:PySem.W.nsIn K g.makers "self"=u_ (u_ (.ref a.Xh))
 k_copy:PySem.W.nsIn K g.makers "copy"=u_ (u_ (.ref a.xS))
 k_row:PySem.W.nsIn K g.makers "row"=u_ (u_ (.ref a.zx))
 k_put:PySem.W.nsIn K g.makers "put"=u_ (u_ (.ref a.zg))
 k_join:PySem.W.nsIn K g.makers "join"=u_ (u_ (.ref a.xR))
 k_first:PySem.W.nsIn K g.makers "first"=u_ (u_ (.ref a.Jh))
 k_rest:PySem.W.nsIn K g.makers "rest"=u_ (u_ (.ref a.xV))
 k_size:PySem.W.nsIn K g.makers "size"=u_ (u_ (.ref a.xO))
 k_cut:PySem.W.nsIn K g.makers "cut"=u_ (u_ (.ref a.zC))
 k_glue:PySem.W.nsIn K g.makers "glue"=u_ (u_ (.ref a.xU))
 k_no:∀z∈NOMK,PySem.W.nsIn K g.makers z=u_ U_
 none_:∀z,xl z=U_->PySem.W.nsIn K g.forms z=u_ U_
 m_BadRule:mg "BadRule"=u_ (.ref g.br)
 x_BadRule:PySem.W.excIn K g.br VE "ValueError.__new__"=v_
 m_BadName:mg "BadName"=u_ (.ref g.bn)
 x_BadName:PySem.W.excIn K g.bn VE "ValueError.__new__"=v_
variable {n:Nat}
theorem yq (h:n<=1000):n<=sizeLine:=UY (X2 h)
theorem sml (h:Nat.ble n 1000=v_):n<=sizeLine:=yq (Nat.le_of_ble_eq_true h)
theorem fits (h:n<=16000000):n<=sizeLine:=by rw [uB];omega
variable {i:Int}
theorem JC {α:Type}{xs:oj α}{c:α}(h:atI xs i=u_ c):c∈xs:=by
 unfold atI at h;erw[Option.bind_eq_some_iff.mp h,j,_,e];exact uQ e
end K23
namespace K23
open PySem L2 PyProof.Rows
variable {z:Str}
theorem okText_long (h:300<z.length):Qp z=false:=by
 unfold Qp;rw [uc ()]
 rfl
noncomputable def isTx:D->Bool
 | .str z=>Qp z
 |_=>V7
inductive WB (vs:List V) (H:Hp) (Q:VK) (E_:XK):Prop
 |mk (v:_) (d:_) (_:vs= [v]) (_:Is H d v) (_:Q (.bl (isTx d)) H)
inductive WM (vs:List V) (H:Hp) (Q:VK) (E_:XK):Prop
 |mk (v:_) (d:_) (_:vs= [v]) (_:Is H d v) (_:∀H',Same H H'->Q (.bl (isT d)) H')
noncomputable def pr (p:D×Nat):D:= .tup [p.1,.int (p.2:Int)]
theorem okText_bad {i c:Nat}(h:z.cps[i]? =u_ c)(O:QD c=V7):Qp z=false:=by
 unfold Qp;have hm:c∈z.cps.toList:=by
  have:z.cps.toList[i]? =u_ c:=by simpa using h
  exact uQ this
 have:z.cps.toList.all QD=false:=by
  rw [List.all_eq_false];exact⟨c,hm,by rw [O];exact u9⟩
 rw [this,tU]
section
variable {P:o9}{w:og}{K:o0}{mg:Str->om o6}{base:o8}{a:Ad}
theorem kj (T:Tx K mg a):#[K,1,a.f_is_text,a.d_is_text,["value"],WB]:=by
 exists 9,T.g_is_text,WF
 erw[h,v,d,rfl,hv,k];exists _,%[@qI _ _ _ _ _ _ _ _ #[zy,#[Qy,#[Qj,#[qx,#[qU,2,rfl],T.qS,uX,#v[pv 0,#[Q3,.ty "str",T.zE,UF]]]]],#[Jo,#[qq,op_gt,#[qx,Jc,T.yt,uG,#v[pv 0]],#[Kg,T.m_MOST_SIGNS]]]].pt %[|#[qt,Ja]] qv,#[YV,#[pi_str,4,pv 0],#[qT,(1),WF.nd],%[|@qI _ _ _ _ _ _ _ _ #[zy,#[qq,op_lt_str,pv 1,qm],#[zy,#[qq,op_gt_str,pv 1,qm],#[Jo,#[qq,Qs,#[qx,call_ord,T.z_ord,boot_ord,#v[pv 1]],#[Kg,T.m_PERCENT]]]]].pt %[|#[qt,Ja]] qv]]|#[qt,Ja]]
 exists 7
 exists 0,v,"str",tyD d,isStr d,1,hv.ty,jD d,0;cases d with
 |str z=>
  erw[hv,rfl,hz];refine iteF ?_;exists 0,z,1,hz,_,0,1,0;refine ite2 (λc=> ?_) (λc=> ?_)
  ·have c':(300:Int)<(z.length:Int):=um c;have e:isTx (.str z)=false:=okText_long ()
   rwa [e] at k
  ·have c':¬(300:Int)<(z.length:Int):=λq=>c (ub q);exists 0,z,1
   let J1_:Nat->L2.St->Hp->Prop:=λi σ H'=>(∃x,σ= [u_ (.str z),x])/\H'=H/\(z.cps.toList.take i).all QD=v_
   refine for_str J1_ [⟨0⟩:1:1] ?_ ?_
   ·rintro i c σ H' hc ⟨⟨x,rfl⟩,rfl,O⟩;have U:QD c=V7->Q (.bl V7) H':=λe=>by
     have e':isTx (.str z)=false:=okText_bad hc e;rwa [e'] at k
    exists 0,_,0,1,0;rw [show decide ((⟨#[c]⟩:Str).cps.toList<(" ":Str).cps.toList)=decide (c<32) from lt_one c 32]
    refine ite2 (λc1=> ?_) (λc1=> ?_)
    ·refine iteT (U ?_);have:=um c1;unfold QD;rw [uc ()]
     rfl
    ·have ac:¬c<32:=λq=>c1 (ub q);exists 0,_,0,1,0;rw [show decide (("~":Str).cps.toList<(⟨#[c]⟩:Str).cps.toList)=decide (126<c) from one_gt c 126]
     refine ite2 (λc2=> ?_) (λc2=> ?_)
     ·refine iteT (U ?_);have:=um c2;unfold QD;rw [uc (p:=c<=126) (),tU]
      rfl
     ·have ad:¬126<c:=λq=>c2 (ub q);exists 0,0,1,1,0;refine ite2 (λc3=> ?_) (λc3=> ?_)
      ·have aa:c=37:=by
        have:=um c3;have:=V.int.inj this;exact pK this
       exact U (by subst aa;rfl)
      ·have aa:c≠37:=λq=>c3 (ub (by rw [q];rfl))
       exists ⟨0⟩,1;rw [uY,show z.cps.toList[i]? =u_ c by simpa using hc,UR,O]
       show(v_&&(QD c&&v_))=v_;unfold QD;rw [ub (),ub (p:=c<=126) (),ub aa]
       rfl
   ·rintro σ H' ⟨⟨x,rfl⟩,rfl,O⟩;have e:isTx (.str z)=true:=by
     show Qp z=v_;unfold Qp;rw [vc (by simp)] at O
     rw [O,ub ()]
     rfl
    rwa [e] at k
 |_=>exact iteT (iteT k)
theorem map_snoc {α β:Type}(f:α->β)(xs:oj α)(x:α):(xs++ [x]).map f=xs.map f++ [f x]:=by simp
theorem last_at {α:Type}(us:oj α)(x:α):(us++ [x])[(us++ [x]).length-1]? =u_ x:=by simp
theorem drop_last {α:Type}(us:oj α)(x:α):(us++ [x]).dropLast=us:=by simp
noncomputable def Wt (v:V)(d:D)(H:Hp)(L:o3)(m:Nat)(σ:L2.St)(H':Hp):Prop:=
 ∃(n:Nat) (w:oj (D×Nat)) (ws:oj V) (x3 x4 x5:om V),σ= [u_ v,u_ (.int n),u_ (.ref L),x3,x4,x5]/\Same H H'/\H' L=u_ (.lst ws)/\IsL H' (w.map pr) ws/\G w n=isT d/\n<=600/\w.length<=1+40*n/\m=ndL (w.map (·.1))
theorem jf (T:Tx K mg a):#[K,2,a.f_is_tree,a.d_is_tree,["value"],WM]:=by
 have wp:=#[kj,T];refine T.g_is_tree.F.ok yo () (λ_ _ _ _ H vs Q E hr h=> ?_)
 erw[h,v,d,rfl,hv,k];exists _,%[#[qC,(1),yo.nd,ql],#[qC,(2),yo.nd,#[QT,#v[#[qE,#v[pv 0,ql]]]]],#[J5,#[pt_truth,3,pv 2,(λ_=>rfl)],%[#[qC,(3),yo.nd,#[pe_bm0,9,uR,PySem.F.slot_list_pop,PySem.F.type_list_pop,mt_pop,pv 2,_,_]],#[qC,(4),yo.nd,#[qH,qF,pv 3,ql]],#[qC,2,(5),4,yo.nd,rfl,V_ rfl,#[qH,qF,pv 3,ql],_,_],@qI _ _ _ _ _ _ _ _ #[wy,#[Qj,#[qx,#[qU,2,rfl],T.qS,uX,#v[pv 4,#[Q3,.ty "tuple",T.QN,vx]]]],#[zA,#[qq,op_le,#[qx,kK,T.yt,uG,#v[pv 4]],#[Kg,T.m_MOST_PARTS]]]].pt %[#[ps_aug,2,(1),6,yo.nd,rfl,gQ rfl,ql,ip_add,_]|#[qV,#[jh,uR,PySem.F.slot_list_extend,PySem.F.type_list_extend,mt_extend,pv 2,#v[#[zI,["below","depth"],[5],lcsN (qj Xp) ["value","size","waiting","pair","part","depth"],#[ZN,pv 4],(λ_ _ _ _ _ _=>#[qT,(0),(show Vp (["below","depth"]:oj Str) by decide+kernel)]),(λ_ _ _ _ _ _=>#[qE,#v[pv 0,#[qY,yx,pv 1,ql]]])]]]]] %[|#[qI,#[Qj,#[qw,wp,T.g_is_text,#v[pv 4]]],%[|#[ps_aug,2,(1),6,yo.nd,rfl,gQ rfl,#[qY,yx,ql,#[qx,kK,T.yt,uG,#v[pv 4]]],ip_add,_]],%[|#[qt,Ja]]]]|@qI _ _ _ _ _ _ _ _ #[zy,#[qq,op_gt,pv 5,#[Kg,T.m_MOST_DEPTH]],#[Jo,#[qq,op_gt,pv 1,#[Kg,T.m_MOST_SIZE]]]].pt %[|#[qt,Ja]] qv]]|#[qt,Ja]]
 exists 7
 have no:∀{H':Hp}{w:oj (D×Nat)}{n:Nat},Same H H'->G w n=isT d->G w n=V7->Q (.bl V7) H':=λ{H' w n} sm e1 e2=>by
  have q:=k H' sm;rwa [<-e1,e2] at q
 refine[0:(sml rfl):λt1 h1=>[(sml rfl):λL hL=> ?_]];have s1:Same H (upd H t1 (.tup [v,.int 1])):=qg h1 _;have s2:Same H (upd (upd H t1 (.tup [v,.int 1])) L (.lst [.ref t1])):=s1.trans (qg hL _);have ak:H L=none:=s1.free hL;have i1:Is (upd H t1 (.tup [v,.int 1])) (pr (d,1)) (.ref t1):=Is.new (ds:= [d,.int 1]) ⟨v,0,hv,_,0,1,1⟩ h1;exists Wt v d H L,⟨_,(0),[(d,1)],[.ref t1],U_,U_,U_,1,s2,qh,IsL.one (i1.mono (qg hL _).tk),G_start d,(),by simp,1⟩
 rintro m σ H' ⟨n,w,ws,x3,x4,x5,rfl,sm,hl,hw,hG,hn,ao,rfl⟩;exists 0,!ws.isEmpty,.inl [ws:SqL.of hl:1];rcases rR w with rfl|⟨w',⟨e,j⟩,rfl⟩
 ·cases(show ws= [] from hw)
  refine iteF ?_;have q:=k H' sm;rwa [<-hG,G_nil hn] at q
 ·rw [FJ] at*;rw [map_snoc] at hw;erw[hw.unsnoc,us,x,rfl,hu,hx];have ne:(!(us++ [x]).isEmpty)=true:=by simp
  rw [ne];refine iteT ⟨λσ' ap=>∃m',m'<ndL ((w'++ [(e,j)]).map (·.1))/\Wt v d H L m' σ' ap,λ_ _ h=>h,?_⟩;have hm:ndL ((w'++ [(e,j)]).map (·.1))=ndL (w'.map (·.1))+nd e:=by
   rw [map_snoc,ze];simp [ndL]
  have au:w'.length<=40*n:=by
   rw [uu,vo] at ao;omega
  have lu:=hu.length;rw [ua] at lu;exists 0,.inl [1:_:SqL.of hl],L,_,x,1,1,hl,last_at us x;rw [drop_last];have t2:Tk H' (upd H' L (.lst us)):=Tk.updL hl;have O:Same H (upd H' L (.lst us)):=λb o z=>by rw [qi (qk z ak)];exact sm b o z
  have ae:Is (upd H' L (.lst us)) (.tup [e,.int (j:Int)]) x:=hx.mono t2;have af:IsL (upd H' L (.lst us)) (w'.map pr) us:=hu.mono t2;have U:upd H' L (.lst us) L=u_ (.lst us):=qh;generalize upd H' L (.lst us)=H2 at t2 O ae af U⊢;clear t2 hl hx hu sm;refine[0:xz (i:=0) ae rfl λy hy=> ?_];refine[0:xz (i:=1) ae rfl λy1 aq=> ?_];cases(show y1= .int (j:Int) from aq)
  show tSeq _ _ _ _ H2;refine qD λN0 n0=>n0 _ _ ?_;exists 8,BB,bb;have ad:∀(n':Nat) (w2:oj (D×Nat)) (aa:oj V) (H3:Hp),Same H H3->H3 L=u_ (.lst aa)->IsL H3 (w2.map pr) aa->(j<=12->n'<=600->G w2 n'=isT d)->(12<j∨600<n'->isT d=V7)->w2.length<=1+40*n'->ndL (w2.map (·.1))<ndL ((w'++ [(e,j)]).map (·.1))->
    BB [u_ v,u_ (V.int (n':Int)),u_ (V.ref L),u_ x,u_ y,u_ (V.int (j:Int))] H3:=by
   intro n' w2 aa H3 s3 l3 i3 g3 b3 al m3;have am:isT d=V7->Q (.bl V7) H3:=λe=>by
    have q:=k H3 s3;rwa [e] at q
   refine bb _ _ ?_;exists 0,_,0,1,0;refine ite2 (λc=>iteT (am (b3 (.inl ?_)))) (λc=>⟨0,_,0,1,0,?_⟩)
   ·have:=um c;omega
   ·have c':¬(12:Int)<(j:Int):=λq=>c (ub q);refine ite2 (λc2=>am (b3 (.inr ?_))) (λc2=> ?_)
    ·have:=um c2;omega
    ·have aw:¬(600:Int)<(n':Int):=λq=>c2 (ub q);exact⟨_,m3,n',w2,aa,_,_,0,s3,l3,i3,g3 () (),(),al,1⟩
  exists 0,y,"tuple",tyD e,XH e,1,hy.ty,JK e,0;cases e with
  |tup xs=>
   refine iteT ?_;erw[hy,a0,vs,rfl,ac,ag];have lv:=ag.length;exists 0,_,vs.length,1,.inr [vs:SqT.of ac:1],_,0,1,0;refine ite2 (λc=> ?_) (λc=> ?_)
   ·have c':(vs.length:Int)<=40:=um c;exists 0,_,0,1;refine⟨0,.inl [1:_:SqL.of U],0,a0,vs,1,SqT.of ac,λax A0 ah=> ?_⟩;refine lc_tupS (tl:= [u_ (.int (j:Int))]) (λd0=> .tup [d0,.int ((j+1:Nat):Int)]) ac ag (fits ()) ah (λd0 x0 H3 R _ s3 i3 r=> ?_) λH3 ys s3 l3 i3=> ?_
    ·refine⟨0,0,_,0,1,(sml rfl),λp hp=> ?_⟩;exact r _ _ (qg hp _) (Is.new (ds:= [d0,.int ((j+1:Nat):Int)]) ⟨x0,0,i3,_,0,1,1⟩ hp)
    ·have ly:=i3.length;rw [ua] at ly;have eA:A0≠L:=λz=>by rw [z,U] at ah;cases ah
     exists L,A0,us,ys,1,1,s3 _ _ U,l3,fits ()
     have t4:Tk H3 (upd H3 L (.lst (us++ys))):=Tk.updL (s3 _ _ U);have em:(w'++xs.map λd0=>(d0,j+1)).map pr=w'.map pr++xs.map λd0=> .tup [d0,.int ((j+1:Nat):Int)]:=by
      rw [Vc,uK];rfl
     have ef:(w'++xs.map λd0=>(d0,j+1)).map (·.1)=w'.map (·.1)++xs:=by
      rw [Vc,uK]
      congr 1
      exact V4 xs
     refine ad (n+1) (w'++xs.map λd0=>(d0,j+1)) (us++ys) _ (λb o z=>by rw [qi (qk z ak)];exact s3 b o (O b o z)) qh (by rw [em];exact((af.mono s3.tk).mono t4).append (i3.mono t4)) (λh1 h2=> ?_) (λh=> ?_) ?_ ?_
     ·rw [<-hG,G_tup () h1]
     ·rw [<-hG];rcases h with h|h
      ·exact G_deep h
      ·exact G_big1 h
     ·rw [uu,ua];omega
     ·rw [ef,hm,ze];simp only [nd];omega
   ·have c':¬(vs.length:Int)<=40:=λq=>c (ub q);exists 0,_,.tup xs,1,(show Is _ (.tup xs) (.ref a0) from⟨a0,vs,1,ac,ag⟩),0
    refine iteF ?_;refine no O hG (G_bad ?_);simp only [good];rw [uc ()]
    rfl
  |str z=>
   refine iteF ?_;erw[hy,rfl,hz];exists 0,_,.str z,1,[1:hz],0;cases ht:Qp z with
   |false=>
    have e1:isTx (.str z)=false:=ht;rw [e1];refine iteF ?_;refine no O hG (G_bad ?_);simp only [good];exact ht
   |true=>
    have e1:isTx (.str z)=true:=ht;rw [e1];refine iteT ?_;exists 0,0,_,z.length,1,[hz:1],_,0,1,_,0,1;have en:(n:Int)+(1+(z.length:Int))=((n+(1+z.length):Nat):Int):=by omega
    show BB [u_ v,u_ (V.int ((n:Int)+(1+(z.length:Int)))),u_ (V.ref L),u_ x,u_ (V.str z),u_ (V.int (j:Int))] _;rw [en];refine ad (n+(1+z.length)) w' us _ O U af (λh1 h2=> ?_) (λh=> ?_) () (by rw [hm];simp only [nd];omega)
    ·rw [<-hG,G_str ht h1]
    ·rw [<-hG];rcases h with h|h
     ·exact G_deep h
     ·refine G_big ?_;simp only [sz];omega
  |_=>
   refine iteF ?_;exact⟨0,_,0,hy,0,iteF (no O hG (G_bad rfl))⟩
noncomputable def LET:Str:="abcdefghijklmnopqrstuvwxyz"
noncomputable def NSG:Str:="abcdefghijklmnopqrstuvwxyz0123456789./"
noncomputable def nm (z:Str):Bool:=decide (1<=(z.length:Int))&&decide ((z.length:Int)<=24)&&inS ⟨#[z.cps.getD 0 0]⟩ LET&&(z.cps.toList.map λc=>inS ⟨#[c]⟩ NSG).all id
noncomputable def isNm:D->Bool
 | .str z=>nm z
 |_=>V7
inductive sp_name (vs:List V) (H:Hp) (Q:VK) (E_:XK):Prop
 |mk (v:_) (d:_) (_:vs= [v]) (_:Is H d v) (_:∀H',Same H H'->Q (.bl (isNm d)) H')
theorem first_at (h:1<=z.length):atI z.cps.toList 0=u_ (z.cps.getD 0 0):=by
 have h':0<z.cps.size:=h;have q:z.cps.toList[0]? =u_ (z.cps.getD 0 0):=by simp [Array.getD,h']
 exact Qm q
theorem allMap (z:Str):(z.cps.toList.map λc=>V.bl (inS ⟨#[c]⟩ NSG))=(z.cps.toList.map λc=>inS ⟨#[c]⟩ NSG).map V.bl:=by
 rw [uK]
 rfl
theorem nm_len (h:¬(1<=(z.length:Int)/\(z.length:Int)<=24)):nm z=false:=by
 unfold nm;by_cases h1:1<=(z.length:Int)
 ·have h2:¬(z.length:Int)<=24:=λq=>h [h1:q];rw [uc h2];simp
 ·rw [uc h1];simp
theorem nm_first (h:inS ⟨#[z.cps.getD 0 0]⟩ LET=V7):nm z=false:=by
 unfold nm;rw [h];simp
theorem nm_rest (h1:1<=(z.length:Int))(h2:(z.length:Int)<=24)(h:inS ⟨#[z.cps.getD 0 0]⟩ LET=v_):nm z=(z.cps.toList.map λc=>inS ⟨#[c]⟩ NSG).all id:=by
 unfold nm;rw [h,ub h1,ub h2];simp
theorem zf (T:Tx K mg a):#[K,1,a.f_is_name,a.d_is_name,["value"],sp_name]:=by
 exists 9,T.g_is_name,sc_is_name
 erw[h,x,d,rfl,hv,k];exists _,%[@qI _ _ _ _ _ _ _ _ #[zy,#[Qy,#[Qj,#[qx,#[qU,2,rfl],T.qS,uX,#v[pv 0,#[Q3,.ty "str",T.zE,UF]]]]],#[Jo,#[Qy,#[pt_chain,12,op_le,op_le,ql,#[qx,Jc,T.yt,uG,#v[pv 0]],#[Kg,T.zw],_]]]].pt %[|#[qt,Ja]] qv,#[qI,#[qq,8,op_notIn_str,#[qH,ix_str,pv 0,ql],#[pe_gS,4,_,T.m_LETTERS,_],#[w]],%[|#[qt,Ja]],qv]|#[qt,#[qx,#[wH,1,rfl],T.z_all,HZ,#v[#[zI,["sign"],[],lcs0,#[pi_str,4,pv 0],(λ_ _ _ _ _ _=>#[qT,(0),(show Vp (["sign"]:oj Str) by decide+kernel)]),(λ_ _ _ _ _ _=>#[YA,op_in_str,pv 0,#[pe_gS,4,_,T.m_NAME_SIGNS,_],#[w]])]]]]]
 exists 7
 exists 0,x,"str",tyD d,isStr d,1,hv.ty,jD d,0;cases hd:isStr d with
 |false=>
  refine iteT (iteT ?_);have:=k H (Same.refl H);have e:isNm d=false:=by cases d<;>first|rfl|simp [isStr] at hd
  rwa [e] at this
 |true=>
  obtain⟨z,rfl⟩:∃z,d= .str z:=by cases d<;>simp [isStr] at hd;exact⟨0⟩
  erw[hv,rfl,U];have k:∀H',Same H H'->Q (.bl (nm z)) H':=k;refine iteF ?_;exists 0,z,1,U,_,0,1,0;have stop:nm z=V7->Q (.bl V7) H:=λe=>by
   have:=k H (Same.refl H);rwa [e] at this
  refine ite2 (λc1=> ?_) (λc1=> ?_)
  ·have aa:1<=(z.length:Int):=um c1;exists _,0,1,0;by_cases O:(z.length:Int)<=24
   ·rw [ub O];refine iteF ?_;exists 0,_,_,0,1,U,first_at (),_,0,1,0
    cases e:inS ⟨#[z.cps.getD 0 0]⟩ LET with
    |false=>
     have e':(!(GR ("abcdefghijklmnopqrstuvwxyz":Str) ⟨#[z.cps.getD 0 0]⟩ 0 ("abcdefghijklmnopqrstuvwxyz":Str).length 1).isEmpty)=false:=e;rw [e'];refine iteT ?_;exact stop (nm_first e)
    |true=>
     have e':(!(GR ("abcdefghijklmnopqrstuvwxyz":Str) ⟨#[z.cps.getD 0 0]⟩ 0 ("abcdefghijklmnopqrstuvwxyz":Str).length 1).isEmpty)=true:=e;rw [e'];refine iteF ?_;refine⟨0,z,1,λD hD=> ?_⟩;refine lc_str (λc=> .bl (inS ⟨#[c]⟩ NSG)) (U) hD (λi c H' R hc sm r=>⟨0,_,0,1,r⟩) λH' sm hl=> ?_;exists D,z.cps.toList.map λc=>inS ⟨#[c]⟩ NSG,1,SqL.of (by rw [hl,allMap])
     have:=k H' sm;rwa [nm_rest aa O e] at this
   ·rw [uc O];refine iteT ?_;exact stop (nm_len λq=>O q.2)
  ·exists 0;refine iteT ?_;exact stop (nm_len λq=>c1 (ub q.1))
end
noncomputable def optD:om Pt->D
 |none=> .non
 |some p=>p.d
inductive sp_part (vs:List V) (H:Hp) (Q:VK) (E_:XK):Prop
 |mk (n:Nat) (kd:Kd) (z:Str) (_:vs= [.str kd.t,.str z,.int (n:Int)]) (_:n<=40) (_:z.length<=300) (_:∀(v:V) (H':Hp),Same H H'->Is H' (optD (y9 n kd z)) v->Q v H')
inductive sp_pieces (K:PySem.W.Frag) (vs:List V) (H:Hp) (Q:VK) (E_:XK):Prop
 |mk (z:Str) (ks:List Kd) (q:Addr) (_:vs= [.str z,.ref q]) (_:z.length<=300) (_:ks.length<=3) (_:SqT K H q (ks.map λk=>V.str k.t)) (_:∀p,H p=U_->Q (.ref p) (upd H p (.lst ((pcs ks z).map V.str))))
theorem Qt {c:Bool}{A B:Prop}(h:c=V7)(b:B):if c=v_ then A else B:=by rw [A4 (by rw [h];exact u9)];exact b
theorem QF {c:Bool}{A B:Prop}(h:c=v_)(a:A):if c=v_ then A else B:=by rw [A5 h];exact a
theorem zr (ks:oj Kd):(ks.map λk=>V.str k.t)=(ks.map Kd.t).map V.str:=by rw [uK];rfl
theorem words_in (ks:oj Kd):inV (.str "words") (ks.map λk=>V.str k.t)=decide (Kd.words∈ks):=by
 rw [zr,wQ,uZ,Ab];constructor
 ·rintro⟨k,O,e⟩;cases k with
  |words=>exact O
  |box=>exact absurd e ()
  |line=>exact absurd e ()
 ·intro h;exact[_:h:1]
theorem form_few:∀x∈FRM,x.2.length<=3:=by decide+kernel
variable {n:Nat}
theorem Kq (h:z∉BX):y9 n .box z=none:=by
 unfold y9;exact A4 h
theorem Xo (h:z∈BX):y9 n .box z=u_ (.s z):=by
 unfold y9;exact A5 h
theorem Wu (h:z∉(Vi n).map λi:Nat=>(Vh (1+(i:Int)):Str)):y9 n .line z=none:=by
 unfold y9;rw [Uo,U4];intro i hi e;exact h (Ab.mpr [i:hi:um e])
theorem xp (h:z∈(Vi n).map λi:Nat=>(Vh (1+(i:Int)):Str)):∃j:Int,1<=j/\j<=n/\z=(Pt.n j).t/\y9 n .line z=u_ (.n j):=by
 erw[Ab.mp h,i,hi,e];unfold y9;cases O:(Vi n).find? λi:Nat=>decide ((Vh (1+(i:Int)):Str)=z) with
 |none=>exact absurd (ub e) (List.find?_eq_none.mp O i hi)
 |some j=>
  have h1:=Hs O;have h2:=List.mem_range.mp (U9 O);exact⟨1+(j:Int),(),(),(um h1).symm,by show Fz _ _=_;rw [O];rfl⟩
section
variable {P:o9}{w:og}{K:o0}{mg:Str->om o6}{base:o8}{a:Ad}{g:Ga}
theorem ok_part (T:Tx K mg a)(C:Fx K w mg g a):#[K,1,a.f_part_of,a.d_part_of,["kind","piece","count"],sp_part]:=by
 exists 9,T.g_part_of,W4
 erw[h,n,kd,z,rfl,hn,hz,k];exists _,%[#[qI,#[qq,Qs,pv 0,qm],%[|#[qt,pv 1]],qv],#[qI,#[qq,Qs,pv 0,qm],%[|#[qt,#[ye,#[qq,8,QZ,pv 1,#[pe_gR,C.m_BOXES],#[w]],pv 1,qX]]],qv],#[ZB,2,["number"],(1),[],(3),12,W4.nd,rfl,gQ rfl,lcs0,rfl,#[pi_range2,7,_,T.Jq,#v[ql,#[qY,yx,pv 2,ql]],_,_],(λ_ _ _ _ _ _=>#[qT,(0),(show Vp (["number"]:oj Str) by decide+kernel)]),(λ_ _ _ _ _ _=> @yY _),(λ_ _ _ _ _ _=>#[qZ,Y1,T.zE,UF,#v[pv 0]]),_,_,_]|#[qt,#[ye,#[qq,8,QZ,pv 1,pv 3,#[w]],#[qZ,call_intS,T.z_int,boot_int,#v[pv 1]],qX]]]
 exists 7
 exists 0,1,0;cases kd with
 |words=>
  refine QF () [0:?_]
  exact k _ H (Same.refl _) [1:yq ()]
 |box=>
  refine Qt () ⟨0,1,0,?_⟩
  refine QF () ⟨0,g.boxes,0,.inr (C.boxes _),1,wu _,0,?_⟩
  rw [A4 u9,wQ];refine ite2 (λc=> ?_) (λc=> ?_)
  ·have U:z∈BX:=um c;rw [Xo U] at k;exact[0:k _ H (Same.refl _) [1:yq ()]]
  ·have U:z∉BX:=λq=>c (ub q);rw [Kq U] at k;exact k _ H (Same.refl _) rfl
 |line=>
  refine Qt () ⟨0,1,0,?_⟩
  refine Qt () ?_
  refine⟨0,_,0,1,(1),(n:Int)+1,1,⟨(),(),(),()⟩,λL hL=> ?_⟩
  rw [show((n:Int)+1-1).toNat=n by omega]
  refine J1 (lo:=1) (tl:= []) (λi ys H'=>ys=(Vi i).map (λi:Nat=>V.str (Vh (1+(i:Int))))/\Same H H') (fits ()) [1:qg hL _] ?_ ?_
  ·rintro i ys H' hi ⟨rfl,sm⟩ O hy R hR;refine⟨0,0,?_,hR _ _ O [?_:?_]⟩
   ·have h1:(1+(i:Int)).natAbs<=41:=by omega
    have h2:=V2 (1+(i:Int)).natAbs;omega
   ·rw [tX,Vc]
    rfl
   ·intro b o e;rw [qi (qk e hL)];exact sm b o e
  ·rintro ys H' ⟨rfl,sm⟩ O;have hy:(Vi n).map (λi:Nat=>V.str (Vh (1+(i:Int))))=((Vi n).map λi:Nat=>(Vh (1+(i:Int)):Str)).map V.str:=by rw [uK];rfl
   refine⟨0,0,L,0,.inl (SqL.of O),1,by rw [hy];exact wu _,0,?_⟩
   rw [A4 u9,hy,wQ];refine ite2 (λc=> ?_) (λc=> ?_)
   ·erw[xp (um c),j,j1,j2,rfl,ej];rw [ej] at k;have hj:=num_small j1 ()
    exact⟨0,_,j,1,kT j1 (),uI hj.1 (),k _ _ sm rfl⟩
   ·rw [Wu λq=>c (ub q)] at k;exact k _ _ sm rfl
theorem ok_pieces (T:Tx K mg a):#[K,1,a.wV,a.Wl,["line","form"],(sp_pieces K)]:=by
 exists 9,T.g_pieces_of,sc_pieces_of
 erw[h,z,ks,q,rfl,hz,hk,U,k];exists _,%[#[qI,#[qq,8,QZ,qm,pv 1,#[w]],%[|#[qt,#[jh,uT,Up,Uq,mt_splitN,pv 0,#v[qm,#[qx,qM,T.yt,uG,#v[pv 1]]]]]],qv]|#[qt,#[jh,uT,Up,Uq,mt_split,pv 0,#v[qm]]]]
 exists 7
 refine⟨0,q,0,.inr U,1,by rw [zr];exact wu _,0,?_⟩
 rw [A4 u9,words_in];unfold pcs at k;refine ite2 (λc=> ?_) (λc=> ?_)
 ·have O:Kd.words∈ks:=um c;rw [A5 O] at k;have h0:0<ks.length:=List.length_pos_iff.mpr λe=>by rw [e] at O;simp at O
  exact⟨0,1,0,q,0,.inr U,_,ks.length,1,by rw [ua],(),h0,(),k⟩
 ·have O:Kd.words∉ks:=λz=>c (ub z);rw [A4 O] at k;exact⟨0,1,0,1,(),k⟩
noncomputable def optR:om Rw->D
 |none=> .non
 |some r=>rowD r
noncomputable def Qk (n:Nat):D->om Rw
 | .str z=>wU n z
 |_=>U_
inductive sp_row_of (vs:List V) (H:Hp) (Q:VK) (E_:XK):Prop
 |mk (v:V) (d:D) (n:Nat) (_:vs= [v,.int (n:Int)]) (_:Is H d v) (_:n<=40) (_:∀(v':V) (H':Hp),Same H H'->Is H' (optR (Qk n d)) v'->Q v' H')
theorem rowOfD_bad:∀{d:D},isTx d=V7->Qk n d=U_
 | .str z,h=>by
  show wU n z=U_;unfold wU;exact A4 (by rw [show Qp z=V7 from h];exact u9)
 | .non,_=>rfl
 | .int _,_=>rfl
 | .bl _,_=>rfl
 | .lst,_=>rfl
 | .dct,_=>rfl
 | .tup _,_=>rfl
theorem txt_str:∀{d:D},isTx d=v_->∃z,d= .str z
 | .str z,_=>[z:1]
noncomputable def j9 (n:Nat)(ks:oj Kd)(zs:oj Str):oj (om Pt):=List.zipWith (y9 n) ks zs
theorem kg {n:Nat}:∀{ks:oj Kd}{zs:oj Str},(j9 n ks zs).any GO=v_->Yj n ks zs=U_
 | [],_,h=>by simp [j9] at h
 |_::_,[],h=>by simp [j9] at h
 |k::ks,z::zs,h=>by
  rw [j9,tS,UA,GY] at h;unfold Yj;rcases h with h|h
  ·rw [Option.isNone_iff_eq_none.mp h]
  ·rw [kg h];split
   ·rename_i h1 h2;cases h2
   ·rfl
theorem ki {n:Nat}:∀{ks:oj Kd}{zs:oj Str},zs.length=ks.length->(j9 n ks zs).any GO=V7->∃ps,Yj n ks zs=u_ ps/\j9 n ks zs=ps.map u_
 | [],[],_,_=>[[]:1:1]
 | [],_::_,hl,_=>by simp at hl
 |_::_,[],hl,_=>by simp at hl
 |k::ks,z::zs,hl,h=>by
  rw [j9,tS,UA,tK] at h;obtain⟨ps,O,U⟩:=ki (ks:=ks) (zs:=zs) (by simpa using hl) h.2
  cases e:y9 n k z with
  |none=>rw [e] at h;cases h.1
  |some p=>
   refine[p::ps:?_:?_]
   ·unfold Yj;rw [e,O]
   ·rw [j9,tS,e,uq]
    congr 1
theorem vals_o {H:Hp}:∀{os:oj (om Pt)}{vs:oj V},L2.IsL H (os.map optD) vs->vs.all Zo=v_/\inV .non vs=os.any GO
 | [],_,h=>by cases(show _= [] from h);exact[1:1]
 |q::ps,_,h=>by
  erw[h,v,r,rfl,h1,h2];erw[vals_o h2,U,i2];have O:Zo v=v_/\eqV v .non=q.isNone:=by
   cases q with
   |none=>cases(show v= .non from h1);exact[1:1]
   |some q=>
    cases q with
    |s z=>erw[h1,rfl,_];exact[1:1]
    |n i=>cases(show v= .int i from h1);exact[1:1]
  refine[?_:?_]
  ·rw [vz,O.1,U];rfl
  ·show(eqV v .non||inV .non r)=_
   rw [O.2,i2];rfl
theorem range_map {α:Type}(l:oj α)(h:α->D)(f:Nat->D)(O:∀i q,l[i]? =u_ q->f i=h q):(Vi l.length).map f=l.map h:=by
 apply List.ext_getElem
 ·simp
 ·intro i h1 h2;simp only [ua,H_] at h1;simp only [List.getElem_map,List.getElem_range];exact O i l[i] (ug h1)
theorem ok_row_of (T:Tx K mg a)(C:Fx K w mg g a):#[K,2,a.f_row_of,a.d_row_of,["line","count"],sp_row_of]:=by
 have wp:=#[kj,T];have aa:=#[ok_part,T,C];have O:=#[ok_pieces,T];refine T.g_row_of.F.ok JX () (λ_ _ _ _ H vs Q E hr h=> ?_)
 erw[h,v,d,n,rfl,hv,hn,k];exists _,%[#[qI,#[Qy,#[Qj,#[qw,wp,T.g_is_text,#v[pv 0]]]],%[|#[qt,qX]],qv],#[qC,(2),JX.nd,#[qH,qF,#[jh,uT,PySem.F.slot_str_partition,PySem.F.type_str_partition,mt_part,pv 0,#v[qm]],ql]],#[qI,#[qq,8,op_notK,pv 2,#[pe_gR,C.m_FORMS],#[w]],%[|#[qt,qX]],qv],#[qC,(3),JX.nd,#[qH,ix_K,#[pe_gR,C.m_FORMS],pv 2]],#[qC,(4),JX.nd,#[qw,O,T.g_pieces_of,#v[pv 0,pv 3]]],#[qI,#[qq,op_ne,#[qx,qM,T.yt,uG,#v[pv 4]],#[qY,yx,ql,#[qx,qM,T.yt,uG,#v[pv 3]]]],%[|#[qt,qX]],qv],#[qC,(5),JX.nd,#[qZ,Qg,T.QN,vx,#v[#[zI,2,["kind","piece","count"],(2),[1],9,lcsN (qj Zz) ["line","count","word","form","pieces","parts"],rfl,#[pi_zip,9,_,T.z_zip,#v[pv 3,#[Zx,10,sl_list,pv 4,#[ZK,ql],kz]],_,_],(λ_ _ _ _ _ _=>#[pg_tupK,1,K,3,(2),1,rfl,rfl,yD #[qT,(0),(show Vp (["kind","piece","count"]:oj Str) by decide+kernel)] (yD #[qT,(1),(show Vp (["kind","piece","count"]:oj Str) by decide+kernel)] ZP),_,_]),(λ_ _ _ _ _ _=> @yY _),(λ_ _ _ _ _ _=>#[qw,aa,T.g_part_of,#v[pv 0,pv 1,pv 2]]),_]]]]|#[qt,#[ye,#[qq,8,QZ,qX,pv 5,#[w]],qX,#[qE,#v[pv 2,pv 5]]]]]
 exists 7
 exists 0,v,d,1,hv,0;cases e0:isTx d with
 |false=>
  rw [rowOfD_bad e0] at k;exact QF rfl (k _ H (Same.refl _) rfl)
 |true=>
 erw[txt_str e0,z,rfl];erw[hv,rfl,au];have ht:Qp z=true:=e0;have hz:z.length<=300:=by
  have U:=ht;unfold Qp at U;rw [ur,uH] at U;exact U.1
 have k:∀(v':V) (H':Hp),Same H H'->Is H' (optR (wU n z)) v'->Q v' H':=k;refine Qt rfl ?_;refine⟨0,1,0,1,(),λt1 x1 x2 g1=> ?_⟩
 exists t1,_,(0),0,1,SqT.of qh,1;have s1:Same H (upd H t1 (.tup [.str (hd z),.str x1,.str x2])):=qg g1 _;generalize upd H t1 (.tup [.str (hd z),.str x1,.str x2])=H1 at s1⊢;unfold wU at k;rw [A5 ht] at k;cases ef:xl (hd z) with
 |none=>
  rw [ef] at k;exact⟨0,hd z,g.forms,0,1,C.kd,C.none_ _ ef,0,QF rfl (k _ _ s1 rfl)⟩
 |some ks=>
 have hk:=zm ef;rw [ef] at k;simp only at k;erw[C.forms _ hk,q,ah,ac];have hf:ks.length<=3:=form_few _ hk;exists 0,hd z,g.forms,0,1,C.kd,ah,0;refine Qt rfl ?_;exists 0,hd z,g.forms,_,.ref q,1,1,C.kd,ah,1;refine⟨0,0,z,ks,q,1,hz,hf,ac _,λp2 g2=> ?_⟩;have s2:Same H1 (upd H1 p2 (.lst ((pcs ks z).map V.str))):=qg g2 _;have e2:(upd H1 p2 (.lst ((pcs ks z).map V.str))) p2=u_ (.lst ((pcs ks z).map V.str)):=qh;generalize upd H1 p2 (.lst ((pcs ks z).map V.str))=H2 at s2 e2⊢;exists 0,p2,0,.inl (SqL.of e2),0,q,0,.inr (ac _),_,0,1,1,0;by_cases hl:(pcs ks z).length=1+ks.length
 case neg=>
  rw [A4 hl] at k;refine QF ?_ (k _ _ (s1.trans s2) rfl);rw [ua,ua];show(!decide (V.int _=V.int _))=v_;rw [uc]
  ·rfl
  ·intro q;have:((pcs ks z).length:Int)=1+(ks.length:Int):=V.int.inj q;omega
 rw [A5 hl] at k;refine Qt ?_ ?_
 ·rw [ua,ua,show((pcs ks z).length:Int)=1+(ks.length:Int) by omega]
  simp
 have af:((pcs ks z).drop 1).length=ks.length:=by rw [vY];omega
 have ak:∀p∈(pcs ks z).drop 1,p.length<=300:=λp hp=>by
  have U:=ht;unfold Qp at U;rw [ur,uH] at U;exact(spl_ok U.1 U.2 p (rG hp)).1
 refine⟨0,0,0,p2,0,SqL.of e2,λp3 g3=> ?_⟩;have al:cutV ((pcs ks z).map V.str) (u_ 1) U_=((pcs ks z).drop 1).map V.str:=by
  rw [show(u_ (1:Int))=u_ (((1:Nat)):Int) from rfl,cutV_drop (by rw [ua];omega),List.map_drop]
 rw [al];generalize (pcs ks z).drop 1=zs at af ak k⊢;have s3:Same H2 (upd H2 p3 (.lst (zs.map V.str))):=qg g3 _;have e3:(upd H2 p3 (.lst (zs.map V.str))) p3=u_ (.lst (zs.map V.str)):=qh;generalize upd H2 p3 (.lst (zs.map V.str))=H3 at s3 e3⊢;have ao:(j9 n ks zs).length=ks.length:=by rw [j9,List.length_zipWith];omega
 refine⟨q,p3,_,0,ac _,SqL.of e3,λA1 gA=> ?_⟩;refine lc_zip (K:=K) (tl:= [u_ (.int (n:Int))]) (xs:=ks.map λk:Kd=>V.str k.t) (ys:=zs.map V.str) (λi=>optD ((j9 n ks zs).getD i U_)) (λH' _=>ac H') (λH' sm=>SqL.of (sm _ _ e3)) (by simp [af]) (by rw [ua];exact yq ()) gA ?_ ?_
 ·intro i x y H4 R hx hy s4 hR;rw [uE] at hx hy;cases ag:ks[i]? with
  |none=>rw [ag] at hx;cases hx
  |some kd=>
   rw [ag] at hx;cases hx;cases ad:zs[i]? with
   |none=>rw [ad] at hy;cases hy
   |some z1=>
    rw [ad] at hy;cases hy;refine⟨0,0,0,n,kd,z1,1,hn,ak _ (uQ ad),λv H5 s5 hv=>hR v H5 s5 ?_⟩;have e:(j9 n ks zs).getD i U_=y9 n kd z1:=by simp [VW,j9,List.getElem?_zipWith,ag,ad]
    simp only [e];exact hv
 intro H5 vs s5 e5 h5;have am:L2.IsL H5 ((j9 n ks zs).map optD) vs:=by
  rw [ua,<-ao] at h5;rw [range_map (j9 n ks zs) optD _ (λi q1 hi=>by simp [VW,hi])] at h5
  exact h5
 refine⟨A1,vs,1,.inl [SqL.of e5:λt6 g6=> ?_]⟩;have s6:Same H5 (upd H5 t6 (.tup vs)):=qg g6 _;have i6:Is (upd H5 t6 (.tup vs)) (.tup ((j9 n ks zs).map optD)) (.ref t6):=Is.new am g6;have e6:(upd H5 t6 (.tup vs)) t6=u_ (.tup vs):=qh;generalize upd H5 t6 (.tup vs)=H6 at s6 i6 e6⊢;erw[vals_o am,f1,f2];have ae:=s1.trans (s2.trans (s3.trans (s5.trans s6)));exists 0,t6,vs,1,.inr (SqT.of e6),1,f1,0;rw [A4 u9,f2];refine ite2 (λc=> ?_) (λc=> ?_)
 ·rw [kg c] at k;exact k _ _ ae rfl
 ·have c':(j9 n ks zs).any GO=false:=by
   cases h:(j9 n ks zs).any GO with
   |false=>rfl
   |true=>exact absurd h c
  erw[ki af c',ps,q1,q2];rw [q1] at k;rw [q2,uK] at i6;refine⟨0,0,(sml rfl),λt7 g7=> ?_⟩;have ap:(hd z).length<=sizeLine:=by
   have aq:∀x∈FRM,x.1.length<=100:=by decide+kernel
   have:=aq _ hk;exact yq (by simp only at this;omega)
  exact k _ _ (ae.trans (qg g7 _)) (Is.new (ds:= [.str (hd z),.tup (ps.map Pt.d)]) ⟨_,0,[1:ap],_,0,i6,1⟩ g7)
theorem part_line {M:Nat}(hn:n<=40){k:Kd}{p:Pt}(h:ptOk n M k p):y9 n k p.t=u_ p:=by
 cases k with
 |words=>
  cases p with
  |s z=>rfl
  |n i=>cases h
 |box=>
  cases p with
  |s z=>exact Xo h
  |n i=>cases h
 |line=>
  cases p with
  |s z=>cases h
  |n i=>
   have h1:1<=i/\i<=n:=h;have hm:(Pt.n i).t∈(Vi n).map λi:Nat=>(Vh (1+(i:Int)):Str):=Ab.mpr ⟨(i-1).toNat,List.mem_range.mpr (),by show(Vh (1+(((i-1).toNat:Nat):Int)):Str)=Vh i;rw [show 1+(((i-1).toNat:Nat):Int)=i by omega]⟩
   erw[xp hm,j,U,j2,ej,e];rw [e];have b1:=kT (i:=i) h1.1 ()
   have b2:=kT (i:=j) U ()
   have O:(Vh i:Str)=Vh j:=ej;rw [O,b2] at b1;rw [uF b1]
theorem WQ {n M:Nat}(hn:n<=40):∀{ks:oj Kd}{ps:oj Pt},Xf n M ks ps->Yj n ks (ps.map Pt.t)=u_ ps
 | [],[],_=>rfl
 |k::ks,p::ps,h=>by
  rw [uq];unfold Yj;rw [part_line hn h.1,WQ hn h.2]
 | [],_::_,h=>h.elim
 |_::_,[],h=>h.elim
variable {ks:oj Kd}
theorem form_line {w:Str}(h:(w,ks)∈FRM):xl w=u_ ks:=by
 cases e:xl w with
 |none=>exact absurd rfl (wK e _ h)
 |some O=>
  have:=form_nd _ (zm e) _ h rfl;rw [(Prod.mk.inj this).2]
variable {r:Rw}
theorem rowOf_line {M:Nat}(hn:n<=40)(h:j7 n M r)(ht:Qp (Yb r)=v_):wU n (Yb r)=u_ r:=by
 have hh:=line_hd h;erw[h,ks,U,O];unfold wU;rw [A5 ht,hh,form_line U];simp only;have hs:pcs ks (Yb r)=txs r:=line_spl hn U O;have hl:=Zi O;rw [hs,A5 (by unfold txs;rw [ui,ua];omega)]
 show Fz _ (Yj n ks (r.2.map Pt.t))=_;rw [WQ hn O]
 rfl
noncomputable def JG (rs:oj Rw):D:= .tup (rs.map λr=> .str (Yb r))
structure yb (rs:oj Rw):Prop where
 n0:1<=rs.length
 n1:rs.length<=40
 ok:∀r∈rs,j7 rs.length 300 r
 tree:isT (JG rs)=v_
theorem goodL_mem:∀{ds:oj D}{d:D},goodL ds=v_->d∈ds->good d=v_
 |x::xs,d,h,hm=>by
  simp only [goodL,ur] at h;rcases A8.mp hm with rfl|hm
  ·exact h.1
  ·exact goodL_mem h.2 hm
variable {rs:oj Rw}
theorem yb.text (h:yb rs)(O:r∈rs):Qp (Yb r)=true:=by
 have h1:=h.tree;unfold isT at h1;rw [ur,ur] at h1;have h2:=h1.1.1;unfold JG at h2;simp only [good,ur] at h2;have:=goodL_mem h2.2 (Ab.mpr [r:O:1])
 simpa only [good] using this
noncomputable def Q1:D->om (oj Rw)
 | .tup ds=>if(decide (1<=ds.length)&&decide (ds.length<=40)&&ds.all (λd=>(Qk ds.length d).isSome)&&isT (.tup ds))=v_ then u_ (ds.filterMap (Qk ds.length)) else U_
 |_=>U_
theorem X5 (ds:oj D):Q1 (.tup ds)=if(decide (1<=ds.length)&&decide (ds.length<=40)&&ds.all (λd=>(Qk ds.length d).isSome)&&isT (.tup ds))=v_ then u_ (ds.filterMap (Qk ds.length)) else none:=rfl
theorem rows_back {n:Nat}:∀{rs:oj Rw},(∀r∈rs,Qk n (.str (Yb r))=u_ r)->(rs.map λr=>D.str (Yb r)).filterMap (Qk n)=rs
 | [],_=>rfl
 |r::rs,h=>by
  rw [uq,Uf (h r uf),rows_back λx O=>h x (ue _ O)]
theorem yb.rowD (h:yb rs)(O:r∈rs):Qk rs.length (.str (Yb r))=u_ r:=rowOf_line h.n1 (h.ok r O) (h.text O)
theorem yb.read (h:yb rs):Q1 (JG rs)=u_ rs:=by
 have hl:(rs.map λr=>D.str (Yb r)).length=rs.length:=ua ..;have U:=h.tree;unfold JG at U⊢;rw [X5,hl,A5]
 ·rw [rows_back λr O=>h.rowD O]
 ·rw [ub h.n0,ub h.n1,U,List.all_eq_true.mpr]
  ·rfl
  ·intro d hd;erw[Ab.mp hd,r,O,rfl];rw [h.rowD O]
   rfl
noncomputable def RdOk (d x y:D):Prop:=(∀rs,Q1 d=u_ rs->x= .tup (rs.map L2.rowD)/\y= .non)/\(Q1 d=U_->∃i:Int,y= .int i)
inductive sp_read (vs:List V) (H:Hp) (Q:VK) (E_:XK):Prop
 |mk (v:V) (d:D) (_:vs= [v]) (_:Is H d v) (_:∀(u:V) (H':Hp) (x y:D),Same H H'->RdOk d x y->Is H' (.tup [x,y]) u->Q u H')
variable {i:Int}
theorem rd_bad {d x:D}(h:Q1 d=U_):RdOk d x (.int i):=⟨λrs e=>(by rw [h] at e;cases e),λ_=>[i:1]⟩
theorem XA {α:Type}{o:om α}(h:o.isSome=v_):∃x,o=u_ x:=by cases o with
 |none=>cases h
 |some x=>exact[x:1]
variable {ds:oj D}
theorem rows_take {i:Nat}{d:D}(h1:ds[i]? =u_ d)(h2:Qk n d=u_ r):(ds.take (i+1)).filterMap (Qk n)=(ds.take i).filterMap (Qk n)++ [r]:=by
 rw [uY,h1,GS];simp [h2]
theorem rows_len {n:Nat}:∀{ds:oj D},(∀z∈ds,(Qk n z).isSome=v_)->(ds.filterMap (Qk n)).length=ds.length
 | [],_=>rfl
 |z::ds,h=>by
  erw[XA (h z uf),r,e];rw [Uf e,ui,ui];exact congrArg (·+1) (rows_len λy O=>h y (ue _ O))
theorem ok_read (T:Tx K mg a)(C:Fx K w mg g a):#[K,3,a.zN,a.Za,["value"],sp_read]:=by
 have yz:=#[jf,T];have aa:=#[ok_row_of,T,C];refine T.g_read_lines.F.ok Yp () (λ_ _ _ _ H vs Q E hr h=> ?_)
 erw[h,v,d,rfl,hv,k];exists _,%[@qI _ _ _ _ _ _ _ _ #[zy,#[Qy,#[Qj,#[qx,#[qU,2,rfl],T.qS,uX,#v[pv 0,#[Q3,.ty "tuple",T.QN,vx]]]]],#[Jo,#[Qy,#[pt_chain,12,op_le,op_le,ql,#[qx,qM,T.yt,uG,#v[pv 0]],#[Kg,T.m_MOST_LINES],_]]]].pt %[|#[qt,#[qE,#v[#[qE,qd],ql]]]] qv,#[qC,(1),Yp.nd,#[QT,qd]],#[YV,#[pi_tup,4,pv 0],#[qT,(2),Yp.nd],%[#[qC,(3),Yp.nd,#[qw,aa,T.g_row_of,#v[pv 2,#[qx,qM,T.yt,uG,#v[pv 0]]]]],#[qI,#[qq,Ym,pv 3,qX],%[|#[qt,#[qE,#v[#[qZ,Qg,T.QN,vx,#v[pv 1]],#[qY,yx,#[qx,qM,T.yt,uG,#v[pv 1]],ql]]]]],qv]|#[qV,#[jh,uR,vm,vn,Ya,pv 1,#v[pv 3]]]]]|#[qt,#[qE,#v[#[qZ,Qg,T.QN,vx,#v[pv 1]],#[ye,#[Qj,#[qw,yz,T.g_is_tree,#v[pv 0]]],qX,ql]]]]]
 exists 7
 exists 0,v,"tuple",_,XH d,1,hv.ty,JK d,0;have U:Q1 d=U_->∀(t:o3),H t=U_->∀t2,(upd H t (.tup [])) t2=U_->Q (.ref t2) (upd (upd H t (.tup [])) t2 (.tup [.ref t,.int 1])):=λhn t g t2 g2=>
  k _ _ (.tup []) (.int 1) ((qg g _).trans (qg g2 _)) (rd_bad hn) (Is.new (ds:= [.tup [],.int 1]) ⟨_,0,Is.new (ds:= []) rfl g,_,0,1,1⟩ g2)
 cases ht:XH d with
 |false=>
  have hn:Q1 d=none:=by
   cases d with
   |tup ds=>cases ht
   |_=>rfl
  exact iteT (iteT [(sml rfl):λt g1=>[(sml rfl):λt2 g2=>U hn t g1 t2 g2]])
 |true=>
 obtain⟨ds,rfl⟩:∃ds,d= .tup ds:=by
  cases d with
  |tup ds=>exact[ds:1]
  |_=>cases ht
 refine iteF ?_;have ad:=hv;erw[ad,va,us,rfl,ha,hu];have ae:us.length=ds.length:=hu.length;exists 0,va,us,1,.inr (SqT.of ha),_,0,1,0;have no:¬(1<=ds.length/\ds.length<=40/\(∀z∈ds,(Qk ds.length z).isSome=v_)/\isT (.tup ds)=v_)->Q1 (.tup ds)=none:=λhc=>by
  unfold Q1;refine A4 λz=>hc ?_;simp only [ur,uH,Uj] at z;exact⟨z.1.1.1,z.1.1.2,z.1.2,z.2⟩
 by_cases c1:1<=ds.length
 case neg=>
  refine Qt (uc ()) [0:?_]
  exact iteT [(sml rfl):λt g1=>[(sml rfl):λt2 g2=>U (no λz=>c1 z.1) t g1 t2 g2]]
 refine QF (ub ()) ?_
 exists _,0,1,0;by_cases c2:ds.length<=40
 case neg=>
  refine QF (by rw [uc ()];rfl) ?_
  exact[(sml rfl):λt g1=>[(sml rfl):λt2 g2=>U (no λz=>c2 z.2.1) t g1 t2 g2]]
 refine Qt (by rw [ub ()];rfl) ?_
 refine[(sml rfl):λL1 g1=> ?_];exists 0,va,1,[us:SqT.of (qg g1 _ _ _ ha)]
 let J1_:Nat->L2.St->Hp->Prop:=λi σ H'=>i<=ds.length/\(∀z∈ds.take i,(Qk ds.length z).isSome=v_)/\∃(ws:oj V) (x2 x3:om V),σ= [u_ (.ref va),u_ (.ref L1),x2,x3]/\H' L1=u_ (.lst ws)/\L2.IsL H' (((ds.take i).filterMap (Qk ds.length)).map L2.rowD) ws/\Same H H'
 refine kS (K:=K) (a:=va) (xs:=us) J1_
  ⟨uN _,(λz hz=>by simp at hz),[],U_,U_,1,qh,1,qg g1 _⟩ (λi σ H' _ ⟨_,_,_,_,_,_,_,_,sm⟩=>SqT.of (sm _ _ ha)) ?_ ?_
 ·rintro i x σ H' hx ⟨ak,O,ws,x2,x3,rfl,e1,hw,sm⟩;have ac:i<ds.length:=by
   erw[Ae.mp hx,h,_];omega
  erw[hu.get (i:=i) (d:=ds[i]) (ug ac),x',af,al];rw [hx] at af;cases af;have am:ws.length=i:=by
   rw [hw.length,ua,rows_len O,vR];omega
  refine⟨0,0,va,us,1,.inr (SqT.of (sm _ _ ha)),x,ds[i],ds.length,by rw [ae];rfl,al.mono sm.tk,c2,λv H2 s2 hv=> ?_⟩
  have e2:=s2 _ _ e1;cases er:Qk ds.length ds[i] with
  |some r=>
   rw [er] at hv;have hv:Is H2 (L2.rowD r) v:=hv;have ad:=hv;erw[ad,ag,ao,rfl,_,_];exists 0,1,0;refine Qt (uc λz=>by cases z) ?_
   exists 0,.inl [1:_:SqL.of e2],0,L1,ws,0,1,e2,X2 ()
   have t3:Tk H2 (upd H2 L1 (.lst (ws++ [.ref ag]))):=Tk.updL e2;refine⟨ac,λz hz=> ?_,ws++ [.ref ag],_,0,qh,?_,λb o e=> ?_⟩
   ·rw [uY,ug ac] at hz;rcases Aa.mp hz with hz|hz
    ·exact O z hz
    ·have:z=ds[i]:=by simpa using hz
     rw [this,er]
     rfl
   ·rw [rows_take (ug ac) er,Vc];exact((hw.mono s2.tk).mono t3).append (IsL.one (hv.mono t3))
   ·rw [qi (qk e g1)];exact s2 b o (sm b o e)
  |none=>
   rw [er] at hv;cases(show v= .non from hv)
   exists 0,1,0;refine QF rfl ?_;refine⟨0,L1,ws,1,.inl [SqL.of e2:λt1 g2=> ?_]⟩;have s3:Same H2 (upd H2 t1 (.tup ws)):=qg g2 _;have i3:Is (upd H2 t1 (.tup ws)) (.tup (((ds.take i).filterMap (Qk ds.length)).map L2.rowD)) (.ref t1):=Is.new (hw.mono s2.tk) g2;refine⟨0,L1,ws,1,.inl (SqL.of (s3 _ _ e2)),_,0,1,(sml rfl),λt4 g4=> ?_⟩;exact k _ _ _ (.int _) (sm.trans (s2.trans (s3.trans (qg g4 _)))) (rd_bad (no λz=>by have:=z.2.2.1 _ (v9 ac);rw [er] at this;cases this)) (Is.new (ds:= [.tup (((ds.take i).filterMap (Qk ds.length)).map L2.rowD),.int _]) ⟨_,0,i3,_,0,1,1⟩ g4)
 ·rintro σ H' ⟨ak,O,ws,x2,x3,rfl,e1,hw,sm⟩;rw [ae,vv] at hw O;refine⟨0,L1,ws,1,.inl [SqL.of e1:λt1 g2=> ?_]⟩;have s2:Same H' (upd H' t1 (.tup ws)):=qg g2 _;have i2:Is (upd H' t1 (.tup ws)) (.tup ((ds.filterMap (Qk ds.length)).map L2.rowD)) (.ref t1):=Is.new hw g2;generalize upd H' t1 (.tup ws)=H2 at s2 i2⊢;refine⟨0,_,.tup ds,1,hv.mono (sm.trans s2).tk,λH3 s3=> ?_⟩;exists 0;cases hT:isT (.tup ds) with
  |true=>
   refine QF rfl [(sml rfl):λt4 g4=> ?_];have ah:Q1 (.tup ds)=u_ (ds.filterMap (Qk ds.length)):=by
    rw [X5,A5];rw [ub c1,ub c2,hT,List.all_eq_true.mpr O]
    rfl
   exact k _ _ _ .non (sm.trans (s2.trans (s3.trans (qg g4 _)))) ⟨λrs e=>(by rw [ah] at e;cases e;exact[1:1]),λe=>(by rw [ah] at e;cases e)⟩ (Is.new (ds:= [.tup ((ds.filterMap (Qk ds.length)).map L2.rowD),.non]) ⟨_,0,i2.mono s3.tk,_,0,1,1⟩ g4)
  |false=>
   refine Qt rfl [(sml rfl):λt4 g4=> ?_];exact k _ _ _ (.int 1) (sm.trans (s2.trans (s3.trans (qg g4 _)))) (rd_bad (no λz=>by have:=z.2.2.2;rw [hT] at this;cases this)) (Is.new (ds:= [.tup ((ds.filterMap (Qk ds.length)).map L2.rowD),.int 1]) ⟨_,0,i2.mono s3.tk,_,0,1,1⟩ g4)
inductive sp_rows (br:Addr) (vs:List V) (H:Hp) (Q:VK) (E:XK):Prop
 |mk (v:V) (d:D) (_:vs= [v]) (_:Is H d v) (_:(∀rs,Q1 d=u_ rs->∀(u:V) (H':Hp),Same H H'->Is H' (.tup (rs.map L2.rowD)) u->Q u H')) (_:(Q1 d=U_->∀(e:Addr) (H':Hp),Same H H'->E (.ref e) (u_ br) H'))
theorem ok_rows (T:Tx K mg a)(C:Fx K w mg g a):FnOk P w K mg base (CX1 P w) 4 a.Wc a.ZE ["tree"] (sp_rows g.br):=by
 have JB:=#[ok_read,T,C];refine T.g_rule_rows.F.okX Zb () (λ_ _ _ _ H _ Q E hr h=> ?_)
 erw[h,v,d,rfl,hv,k,kB];exists _,%[#[qC,(1),Zb.nd,#[qw,JB,T.g_read_lines,#v[pv 0]]],#[qI,#[qq,op_notN,#[qH,qF,pv 1,ql],qX],%[|#[ps_raise,22,C.x_BadRule,_,C.m_BadRule,qm,_,_]],qv]|#[qt,#[qH,qF,pv 1,ql]]]
 exists 7
 refine⟨0,v,d,1,hv,λu H1 x y s1 hd U=> ?_⟩;exists 0;dsimp only [tC];refine xz (i:=1) (d:=y) U rfl λz hz=> ?_;cases O:Q1 d with
 |none=>
  erw[hd.2 O,i,rfl];cases(show z= .int i from hz)
  exists 1,0;refine QF (by rw [uc (λz=>by cases z)];rfl) ?_
  exact[1:λe=>kB O e H1 s1]
 |some rs=>
  erw[hd.1 rs O,rfl,rfl];cases(show z= .non from hz)
  exists 1,0;refine Qt rfl ?_;exists 0;dsimp only [tC];refine xz (i:=0) (d:= .tup (rs.map L2.rowD)) U rfl λq hq=> ?_;exact k rs O q H1 s1 hq
noncomputable def kvB (f:Str->V):oj (Key×V):=BX.map λz=>(V9 z,f z)
theorem val_B {f:Str->V}:∀{zs:oj Str}{z:Str},z∈zs->valV (zs.map λz=>((V9 z:Key),f z)) (V9 z)=u_ (f z)
 |y::ys,z,h=>by
  rw [uq];by_cases e:y=z
  ·subst e;exact QP rfl
  ·have h':z∈ys:=by
    rcases A8.mp h with rfl|h
    ·exact absurd rfl e
    ·exact h
   have:=val_B (f:=f) h';unfold valV at this⊢;rw [vb];have O:decide ((V9 y:Key)=V9 z)=false:=uc λq=>e (Uu q);simp only [O];exact this
theorem put_B {f:Str->V}{u:V}(h:z∈BX):putK (kvB f) (V9 z) u=kvB λy=>if y=z then u else f y:=by
 unfold putK;rw [A5]
 ·unfold kvB;rw [uK];refine Uh λy _=> ?_;by_cases e:y=z
  ·simp [e]
  ·simp [e]
 ·rw [Tf];exact⟨(V9 z,f z),Ab.mpr [z:h:1],by simp⟩
noncomputable def Yo (H:Hp)(d:o3)(B:Str->D):Prop:=∃f:Str->V,H d=u_ (.dK (kvB f))/\∀z∈BX,Is H (B z) (f z)
noncomputable def setB (B:Str->D)(z:Str)(e:D):Str->D:=λy=>if y=z then e else B y
variable {H H':Hp}
theorem Yo.same {d:o3}{B:Str->D}(h:Yo H d B)(s:Same H H'):Yo H' d B:=let⟨f,e,i⟩:=h;[f:s _ _ e:λz O=>(i z O).mono s.tk]
theorem Yo.move {d:o3}{B:Str->D}(h:Yo H d B)(t:Tk H H')(e:H' d=H d):Yo H' d B:=let⟨f,e1,i⟩:=h;[f:e.trans e1:λz O=>(i z O).mono t]
theorem Yo.get {d:o3}{B:Str->D}(h:Yo H d B)(O:z∈BX):∃v,DGet H d (.str z) (u_ v)/\Is H (B z) v:=by
 erw[h,f,e,i];refine[f z:?_:i z O];have:=DGet.k (k:=(V9 z:Key)) e;rw [show valV (kvB f) (V9 z)=u_ (f z) from val_B O] at this
 exact this
variable {e:D}
theorem Yo.put {d:o3}{B:Str->D}{u:V}(h:Yo H d B)(U:z∈BX)(hu:Is H e u):∃kvs,DPut H d (.str z) u (upd H d (.dK kvs))/\Yo (upd H d (.dK kvs)) d (setB B z e)/\Tk H (upd H d (.dK kvs)):=by
 erw[h,f,O,i];refine⟨kvB λy=>if y=z then u else f y,.inl ⟨_,V9 z,O,1,by show BX.length<Vb;rw [uB];decide,by rw [put_B U]⟩,[_:qh:λy hy=> ?_],Tk.updD O⟩
 have t:Tk H (upd H d (.dK (kvB λy=>if y=z then u else f y))):=Tk.updD O
 unfold setB;by_cases c:y=z
 ·rw [A5 c,A5 c];exact hu.mono t
 ·rw [A4 c,A4 c];exact(i y hy).mono t
noncomputable def xr:oj D->Bool
 | []=>v_
 | .str _::r=>xr r
 |_=>V7
noncomputable def xo:oj D->oj Str
 | .str z::r=>z::xo r
 |_=> []
noncomputable def b0 (ps:oj Pt):Str:=(ps.getD 0 (.s "")).t
noncomputable def b1 (ps:oj Pt):Str:=(ps.getD 1 (.s "")).t
noncomputable def b2 (ps:oj Pt):Str:=(ps.getD 2 (.s "")).t
noncomputable def firstD:D->D
 | .str z=>if z.length=0 then .non else .str ⟨#[z.cps.getD 0 0]⟩
 | .tup (x::_)=>x
 |_=> .non
noncomputable def restD:D->D
 | .str z=>if z.length=0 then .non else .str (VT z (u_ 1) U_)
 | .tup (_::r)=> .tup r
 |_=> .non
noncomputable def lenD:D->Nat
 | .str z=>z.length
 | .tup xs=>xs.length
 |_=>0
noncomputable def putD:D->D->D
 | .tup xs,e=> .tup (xs++ [e])
 |_,_=> .non
noncomputable def joinD:D->D->D
 | .str x,.str y=> .str (x++y)
 |_,_=> .non
noncomputable def cutD:D->D->D
 | .str z,.str y=>if y.length=0 then .non else .tup ((spG z y).map .str)
 |_,_=> .non
noncomputable def glueD:D->D->D
 | .tup xs,.str y=>if xr xs=v_ then .str (Vg y (xo xs)) else .non
 |_,_=> .non
noncomputable def made (w:Str)(B:Str->D)(own:Str)(ps:oj Pt):D:=
 if w="text" then .str (b1 ps) else if w="self" then .str own else if w="copy" then B (b1 ps) else if w="row" then .tup [] else
 if w="put" then putD (B (b0 ps)) (B (b1 ps)) else if w="join" then joinD (B (b0 ps)) (B (b1 ps)) else if w="first" then firstD (B (b1 ps)) else if w="rest" then restD (B (b1 ps)) else
 if w="size" then .str (Vh ((lenD (B (b1 ps)):Nat):Int)) else if w="cut" then cutD (B (b1 ps)) (B (b2 ps)) else glueD (B (b1 ps)) (B (b2 ps))
theorem QS {m:Nat}{w:Str}{ps:oj Pt}(h:j7 n m (w,ps))(O:(w,ks)∈FRM):Xf n m ks ps:=by
 erw[h,U,h1,h2];have:=form_nd _ h1 _ O rfl;cases this;exact h2
theorem sh_b {m:Nat}{ps:oj Pt}(h:Xf n m [.box] ps):∃x,ps= [.s x]/\x∈BX:=by
 match ps,h with
 | [.s x],h=>exact[x:1:h.1]
 | [.n _],h=>exact h.1.elim
theorem Z3 {m:Nat}{ps:oj Pt}(h:Xf n m [.box,.box] ps):∃x y,ps= [.s x,.s y]/\x∈BX/\y∈BX:=by
 match ps,h with
 | [.s x,.s y],h=>exact⟨x,y,1,h.1,h.2.1⟩
 | [.n _,_],h=>exact h.1.elim
 | [.s _,.n _],h=>exact h.2.1.elim
theorem sh_bbb {m:Nat}{ps:oj Pt}(h:Xf n m [.box,.box,.box] ps):∃x y z,ps= [.s x,.s y,.s z]/\x∈BX/\y∈BX/\z∈BX:=by
 match ps,h with
 | [.s x,.s y,.s z],h=>exact⟨x,y,z,1,h.1,h.2.1,h.2.2.1⟩
 | [.n _,_,_],h=>exact h.1.elim
 | [.s _,.n _,_],h=>exact h.2.1.elim
 | [.s _,.s _,.n _],h=>exact h.2.2.1.elim
theorem sh_bw {m:Nat}{ps:oj Pt}(h:Xf n m [.box,.words] ps):∃x y,ps= [.s x,.s y]/\x∈BX/\y.length<=m/\y.cps.toList.all QD=true:=by
 match ps,h with
 | [.s x,.s y],h=>exact⟨x,y,1,h.1,h.2.1⟩
 | [.n _,_],h=>exact h.1.elim
 | [.s _,.n _],h=>exact h.2.1.elim
theorem sh_bl {m:Nat}{ps:oj Pt}(h:Xf n m [.box,.line] ps):∃x,∃i:Int,ps= [.s x,.n i]/\x∈BX/\1<=i/\i<=n:=by
 match ps,h with
 | [.s x,.n i],h=>exact⟨x,i,1,h.1,h.2.1⟩
 | [.n _,_],h=>exact h.1.elim
 | [.s _,.s _],h=>exact h.2.1.elim
theorem sh_bbl {m:Nat}{ps:oj Pt}(h:Xf n m [.box,.box,.line] ps):∃x y,∃i:Int,ps= [.s x,.s y,.n i]/\x∈BX/\y∈BX/\1<=i/\i<=n:=by
 match ps,h with
 | [.s x,.s y,.n i],h=>exact⟨x,y,i,1,h.1,h.2.1,h.2.2.1⟩
 | [.n _,_,_],h=>exact h.1.elim
 | [.s _,.n _,_],h=>exact h.2.1.elim
 | [.s _,.s _,.s _],h=>exact h.2.2.1.elim
noncomputable def PtsAt (H:Hp)(t:o3)(ps:oj Pt):Prop:=Is H (.tup (ps.map Pt.d)) (.ref t)
noncomputable def Tr (B:Str->D):Prop:=∀z∈BX,isT (B z)=v_
inductive X0 (w:Str) (vs:List V) (H:Hp) (Q:VK) (E_:XK):Prop
 |mk (d t:Addr) (own:Str) (B:Str->D) (ps:List Pt) (n:Nat) (_:vs= [.ref d,.str own,.ref t]) (_:Yo H d B) (_:Tr B) (_:own.length<=100) (_:j7 n 300 (w,ps)) (_:PtsAt H t ps) (_:∀(v:V) (H':Hp),Same H H'->Is H' (made w B own ps) v->Q v H')
variable {Q:VK}
theorem box_at {K:o0}{t:o3}{ps:oj Pt}{i:Nat}(h:PtsAt H t ps)(e:ps[i]? =u_ (.s z))(q:Q (.str z) H):rIxT K (.ref t) (.int (i:Int)) H Q:=
 xz (d:= .str z) h (Qm (by rw [uE,e];rfl)) λx O=>by erw[O,rfl,_];exact q
theorem ZM {d:D}(h:isT d=v_):dp d<=12:=by
 unfold isT at h;rw [ur] at h;exact um h.2
theorem isT_sz {d:D}(h:isT d=v_):sz d<=600:=by
 unfold isT at h;rw [ur,ur] at h;exact um h.1.2
theorem Y9 {d:D}(h:isT d=v_):lenD d<=600:=by
 have h1:=isT_sz h;cases d with
 |str z=>simp only [sz] at h1;show z.length<=600;omega
 |tup xs=>
  unfold isT at h;rw [ur,ur] at h;have h2:=h.1.1;simp only [good,ur] at h2;have:=um h2.1;show xs.length<=600;omega
 |_=>exact uN _
theorem app_len (z y:Str):(z++y:Str).length=z.length+y.length:=by
 show(z.cps++y.cps).size=z.cps.size+y.cps.size;exact tE
theorem bget {K:o0}{t d:o3}{B:Str->D}{ps:oj Pt}{i:Nat}(O:Yo H d B)(h:PtsAt H t ps)(e:ps[i]? =u_ (.s z))(U:z∈BX)(q:∀v,Is H (B z) v->Q v H):rIxT K (.ref t) (.int (i:Int)) H (λy H2=>ItDGet Q (.ref d) y H2):=by
 erw[O.get U,v,gv,iv];exact box_at h e ⟨d,v,1,gv,q v iv⟩
theorem ok_text (T:Tx K mg a):#[K,1,a.xY,a.Wk,["boxes","own","parts"],(X0 "text")]:=by
 exists 9,T.g_text_made,sc_text_made
 erw[h,d,t,own,B,ps,n,rfl,hB,hT,ho,O,U,k];exists _,%[|#[qt,#[qH,qF,pv 2,ql]]]
 exists 7
 erw[sh_bw (QS O ()),x,y,rfl,hx,hy,hs]
 exact⟨0,box_at (i:=1) U rfl (k _ H (Same.refl _) ⟨1,yq (by show y.length<=1000;omega)⟩)⟩
theorem ok_self (T:Tx K mg a):#[K,1,a.Xh,a.ZJ,["boxes","own","parts"],(X0 "self")]:=by
 exists 9,T.g_self_made,sc_self_made,U
 erw[h,d,t,own,B,ps,n,rfl,hB,hT,ho,O,hp,k];exists _,%[|#[qt,pv 1]]
 exists 7
 exact⟨0,k _ H (Same.refl _) ⟨1,yq (by show own.length<=1000;omega)⟩⟩
theorem ok_row (T:Tx K mg a):#[K,1,a.zx,a.WD,["boxes","own","parts"],(X0 "row")]:=by
 exists 9,T.g_row_made,sc_row_made
 erw[h,d,t,own,B,ps,n,rfl,hB,hT,ho,U,hp,k];exists _,%[|#[qt,#[qE,qd]]]
 exists 7
 exact[(sml rfl):λl O=>k _ _ (qg O _) (Is.new (ds:= []) rfl O)]
theorem ok_copy (T:Tx K mg a):#[K,1,a.xS,a.Z5,["boxes","own","parts"],(X0 "copy")]:=by
 exists 9,T.g_copy_made,sc_copy_made,U
 erw[h,d,t,own,B,ps,n,rfl,hB,hT,ho,O,hp,k];exists _,%[|#[qt,#[Qr,6,Qn U,pv 0,#[qH,qF,pv 2,ql],(λ_ _=>rfl)]]]
 exists 7
 erw[Z3 (QS O ()),x,y,rfl,hx,hy]
 exists 0,0;exact bget (i:=1) hB hp rfl hy λv iv=>k _ H (Same.refl _) iv
theorem ok_put (T:Tx K mg a):#[K,1,a.zg,a.WJ,["boxes","own","parts"],(X0 "put")]:=by
 exists 9,T.g_put_made,Z2
 erw[h,d,t,own,B,ps,n,rfl,hB,hT,ho,aa,O,k];exists _,%[#[qC,(3),Z2.nd,#[Qr,#[qH,qF,pv 2,ql]]],#[qI,#[Qy,#[Qj,#[qx,#[qU,2,rfl],T.qS,uX,#v[pv 3,#[Q3,.ty "tuple",T.QN,vx]]]]],%[|#[qt,qX]],qv]|#[qt,#[qY,Xl,pv 3,#[qE,#v[#[Qr,#[qH,qF,pv 2,ql]]]]]]]
 exists 7
 erw[Z3 (QS aa ()),x,y,rfl,hx,hy]
 exists 0,0;refine bget (i:=0) hB O rfl hx λv iv=> ?_;exists 0,v,"tuple",tyD (B x),XH (B x),1,iv.ty,JK _,0;have U:=Y9 (hT x hx);have k':∀(v:V) (H':Hp),Same H H'->Is H' (putD (B x) (B y)) v->Q v H':=k;generalize B x=dx at iv k' U⊢;cases dx with
 |tup xs=>
  refine iteF ?_;erw[iv,r,rs,rfl,er,ir];exists 0,0,0;refine bget (i:=1) hB O rfl hy λu iu=> ?_;refine⟨(sml rfl),λl hl=>⟨r,l,rs,[u],1,1,SqT.of (qg hl _ _ _ er),SqT.of qh,?_,λe=> ?_,λ_ e=>(by cases e),λ_ _ p O=> ?_⟩⟩
  ·rw [ir.length];have:xs.length<=600:=U;exact yq (by show xs.length+1<=1000;omega)
  ·subst e;have e2:xs= []:=Ui ir.length.symm;subst e2;exact k' _ _ (qg hl _) (Is.new (ds:= [B y]) (IsL.one iu) hl)
  ·have t1:Tk H (upd H l (.tup [u])):=(qg hl _).tk;exact k' _ _ ((qg hl _).trans (qg O _)) (Is.new (ds:=xs++ [B y]) ((ir.mono t1).append (IsL.one (iu.mono t1))) O)
 |_=>exact iteT (k' _ H (Same.refl _) rfl)
theorem ok_join (T:Tx K mg a):#[K,1,a.xR,a.ZO,["boxes","own","parts"],(X0 "join")]:=by
 exists 9,T.g_join_made,JV
 erw[h,d,t,own,B,ps,n,rfl,hB,hT,ho,aa,hp,k];exists _,%[#[qC,(3),JV.nd,#[Qr,#[qH,qF,pv 2,ql]]],#[qC,(4),JV.nd,#[Qr,#[qH,qF,pv 2,ql]]],@qI _ _ _ _ _ _ _ _ #[zy,#[Qy,#[Qj,#[qx,#[qU,2,rfl],T.qS,uX,#v[pv 3,#[Q3,.ty "str",T.zE,UF]]]]],#[Jo,#[Qy,#[Qj,#[qx,#[qU,2,rfl],T.qS,uX,#v[pv 4,#[Q3,.ty "str",T.zE,UF]]]]]]].pt %[|#[qt,qX]] qv|#[qt,#[qY,Qf,pv 3,pv 4]]]
 exists 7
 erw[Z3 (QS aa ()),x,y,rfl,hx,hy]
 exists 0,0;refine bget (i:=0) hB hp rfl hx λv iv=> ?_;exists 0,0;refine bget (i:=1) hB hp rfl hy λu iu=> ?_;have lx:=Y9 (hT x hx);have ly:=Y9 (hT y hy);have O:∀(v:V) (H':Hp),Same H H'->Is H' (joinD (B x) (B y)) v->Q v H':=k;generalize B x=dx at iv O lx⊢;generalize B y=U at iu O ly⊢;exists 0,v,"str",tyD dx,isStr dx,1,iv.ty,jD _,0;cases dx with
 |str z=>
  refine iteF ⟨0,u,"str",tyD U,isStr U,1,iu.ty,jD _,0,?_⟩;cases U with
  |str z2=>
   refine iteF ?_;erw[iv,rfl,_];erw[iu,rfl,_];have h1:z.length<=600:=lx;have h2:z2.length<=600:=ly;exact⟨0,0,_,0,1,fits (),O _ H (Same.refl _) ⟨1,by rw [show(z++z2).length=z.length+z2.length from app_len z z2];exact fits ()⟩⟩
  |_=>exact iteT (O _ H (Same.refl _) rfl)
 |_=>exact iteT (O _ H (Same.refl _) (by cases U<;>rfl))
theorem ok_first (T:Tx K mg a):#[K,1,a.Jh,a.Ze,["boxes","own","parts"],(X0 "first")]:=by
 exists 9,T.g_first_made,XJ
 erw[h,d,t,own,B,ps,n,rfl,hB,hT,ho,aa,hp,k];exists _,%[#[qC,(3),XJ.nd,#[Qr,#[qH,qF,pv 2,ql]]]|#[qt,#[ye,#[qq,op_gt,#[qx,Jv,T.yt,uG,#v[pv 3]],ql],#[qH,JS,pv 3,ql],qX]]]
 exists 7
 erw[Z3 (QS aa ()),x,y,rfl,hx,hy]
 exists 0,0;refine bget (i:=1) hB hp rfl hy λv U=> ?_;have ly:=Y9 (hT y hy);have hg:=hT y hy;have O:∀(v:V) (H':Hp),Same H H'->Is H' (firstD (B y)) v->Q v H':=k;generalize B y=dy at U O ly hg⊢;cases dy with
 |str z=>
  erw[U,rfl,hz];refine[0:.inl ⟨z,1,hz,_,0,1,0,?_⟩];refine ite2 (λc=> ?_) (λc=> ?_)
  ·have h0:1<=z.length:=by have:=um c;omega
   have k2:Is H (firstD (.str z)) (.str ⟨#[z.cps.getD 0 0]⟩):=by
    show Is H (if z.length=0 then D.non else _) _
    rw [A4 ()]
    exact⟨1,yq (by show 1<=1000;decide)⟩
   exact[0:.inr (.inr ⟨z,(0),0,1,hz,first_at h0,O _ H (Same.refl _) k2⟩)]
  ·have h0:z.length=0:=by
    rcases Rf z.length with e|e
    ·exact e
    ·exact absurd (ub ()) c
   exact O _ H (Same.refl _) (by show Is H (if z.length=0 then D.non else _) _;rw [A5 h0];rfl)
 |tup xs=>
  have ac:=U;erw[ac,r,rs,rfl,er,ir];refine[0:.inr ⟨r,rs,1,.inr (SqT.of er),λ_=>⟨_,0,1,0,?_⟩⟩];have hl:=ir.length;cases xs with
  |nil=>exact Qt (uc (by rw [hl];decide)) (O _ H (Same.refl _) rfl)
  |cons e es=>
   refine QF (ub (by rw [hl,ui];omega)) ?_
   exact[0:.inr (.inl (xz (i:=0) (d:=e) U (Qm (j:=0) rfl) λq hq=>O _ H (Same.refl _) hq))]
 |_=>simp [isT,good] at hg
theorem kc:∀xs:oj D,xr xs=xs.all isStr
 | []=>rfl
 | .str _::r=>by show xr r=_;rw [kc r];rfl
 | .non::_| .bl _::_| .int _::_| .lst::_| .dct::_| .tup _::_=>rfl
theorem strs_map:∀{xs:oj D},xr xs=v_->xs=(xo xs).map D.str
 | [],_=>rfl
 | .str z::r,h=>by
  show D.str z::r=D.str z::(xo r).map D.str;rw [<-strs_map (show xr r=v_ from h)]
theorem IsL.strs {H:Hp}:∀{l:oj Str}{vs:oj V},L2.IsL H (l.map D.str) vs->vs=l.map V.str
 | [],_,h=>h
 |_::_,_,h=>by
  erw[h,v,r,rfl,h1,h2];rw [IsL.strs h2,h1.1];rfl
theorem IsL.ofStrs {H:Hp}:∀{l:oj Str},(∀z∈l,z.length<=Vb)->L2.IsL H (l.map D.str) (l.map V.str)
 | [],_=>rfl
 |z::l,h=>⟨_,0,[1:h z uf],IsL.ofStrs λy O=>h y (ue _ O)⟩
theorem sum_lens:∀(l:oj Str),(l.map (·.length)).sum+l.length=szL (l.map D.str)
 | []=>rfl
 |z::l=>by
  have:=sum_lens l;simp only [uq,UB,ui,szL,sz];omega
theorem join_le (sep:Str):∀(l:oj Str),(Vg sep l).length<=(l.map (·.length)).sum+l.length*sep.length
 | []=>uN _
 | [x]=>by simp [Vg]
 |x::y::r=>by
  have O:=join_le sep (y::r);have e:(Vg sep (x::y::r)).length=x.length+sep.length+(Vg sep (y::r)).length:=by
   show((x.cps++sep.cps)++(Vg sep (y::r)).cps).size=_;rw [tE,tE]
   rfl
  rw [e,uq,UB,ui,Nat.succ_mul];omega
theorem ok_rest (T:Tx K mg a):#[K,1,a.xV,a.Z1,["boxes","own","parts"],(X0 "rest")]:=by
 exists 9,T.g_rest_made,zR
 erw[h,d,t,own,B,ps,n,rfl,hB,hT,ho,aa,U,k];exists _,%[#[qC,(3),zR.nd,#[Qr,#[qH,qF,pv 2,ql]]]|#[qt,#[ye,#[qq,op_gt,#[qx,Jv,T.yt,uG,#v[pv 3]],ql],#[Zx,10,sl_any,pv 3,#[ZK,ql],kz],qX]]]
 exists 7
 erw[Z3 (QS aa ()),x,y,rfl,hx,hy]
 exists 0,0;refine bget (i:=1) hB U rfl hy λv iv=> ?_;have ly:=Y9 (hT y hy);have hg:=hT y hy;have O:∀(v:V) (H':Hp),Same H H'->Is H' (restD (B y)) v->Q v H':=k;generalize B y=dy at iv O ly hg⊢;cases dy with
 |str z=>
  erw[iv,rfl,hz];refine[0:.inl ⟨z,1,hz,_,0,1,0,?_⟩];refine ite2 (λc=> ?_) (λc=> ?_)
  ·have h0:1<=z.length:=by have:=um c;omega
   have k2:Is H (restD (.str z)) (.str (VT z (u_ 1) U_)):=by
    show Is H (if z.length=0 then D.non else _) _
    rw [A4 ()]
    exact[1:uI (Ff z _ _) hz]
   exact[0:0:.inl ⟨z,1,hz,O _ H (Same.refl _) k2⟩]
  ·have h0:z.length=0:=by
    rcases Rf z.length with e|e
    ·exact e
    ·exact absurd (ub ()) c
   exact O _ H (Same.refl _) (by show Is H (if z.length=0 then D.non else _) _;rw [A5 h0];rfl)
 |tup xs=>
  have ac:=iv;erw[ac,r,rs,rfl,er,ir];refine[0:.inr ⟨r,rs,1,.inr (SqT.of er),λ_=>⟨_,0,1,0,?_⟩⟩];have hl:=ir.length;cases xs with
  |nil=>exact Qt (uc (by rw [hl];decide)) (O _ H (Same.refl _) rfl)
  |cons e es=>
   refine QF (ub (by rw [hl,ui];omega)) ?_
   erw[ir,v0,r0,rfl,i0,i1];refine[0:0:.inr ⟨r,v0::r0,1,SqT.of er,λh=> ?_,λ_ p U=> ?_⟩]
   ·exfalso;have:=h.1;simp [HT.sIx] at this
   ·have e1:cutV (v0::r0) (u_ 1) U_=r0:=by
     rw [show(u_ (1:Int))=u_ (((1:Nat)):Int) from rfl,cutV_drop (by simp)]
     rfl
    rw [e1];exact O _ _ (qg U _) (Is.new i1 U)
 |_=>simp [isT,good] at hg
theorem ok_size (T:Tx K mg a):#[K,1,a.xO,a.Z6,["boxes","own","parts"],(X0 "size")]:=by
 exists 9,T.g_size_made,sc_size_made
 erw[h,d,t,own,B,ps,n,rfl,hB,hT,ho,O,hp,k];exists _,%[|#[qt,#[qZ,Y1,T.zE,UF,#v[#[qx,Jv,T.yt,uG,#v[#[Qr,#[qH,qF,pv 2,ql]]]]]]]]
 exists 7
 erw[Z3 (QS O ()),x,y,rfl,hx,U]
 exists 0,0;refine bget (i:=1) hB hp rfl U λv iv=> ?_;have ly:=Y9 (hT y U);have hg:=hT y U;have k':∀(v:V) (H':Hp),Same H H'->Is H' (.str (Vh ((lenD (B y):Nat):Int))) v->Q v H':=k;generalize B y=dy at iv k' ly hg⊢;have sm:∀n:Nat,n<=600->((n:Int)).natAbs.log2<1920/\((Vh (n:Int):Str)).length<=sizeLine:=by
  intro n hn;have h2:=V2 ((n:Int)).natAbs;exact[():int_text_fits ()]
 cases dy with
 |str z=>
  erw[iv,rfl,hz];have h2:=sm z.length ly;exact .inl ⟨z,1,hz,0,h2.1,k' _ H (Same.refl _) [1:h2.2]⟩
 |tup xs=>
  have aa:=iv;erw[aa,r,rs,rfl,er,ir];have h2:=sm xs.length ly;refine .inr ⟨r,rs,1,.inr (SqT.of er),λ_=>[0:?_:?_]⟩
  ·rw [ir.length];exact h2.1
  ·rw [ir.length];exact k' _ H (Same.refl _) [1:h2.2]
 |_=>simp [isT,good] at hg
theorem ok_cut (T:Tx K mg a):#[K,1,a.zC,a.W7,["boxes","own","parts"],(X0 "cut")]:=by
 exists 9,T.g_cut_made,Xj
 erw[h,d,t,own,B,ps,n,rfl,hB,hT,ho,aa,hp,k];exists _,%[#[qC,(3),Xj.nd,#[Qr,#[qH,qF,pv 2,ql]]],#[qC,(4),Xj.nd,#[Qr,#[qH,qF,pv 2,ql]]],@qI _ _ _ _ _ _ _ _ #[zy,#[Qy,#[Qj,#[qx,#[qU,2,rfl],T.qS,uX,#v[pv 3,#[Q3,.ty "str",T.zE,UF]]]]],#[zy,#[Qy,#[Qj,#[qx,#[qU,2,rfl],T.qS,uX,#v[pv 4,#[Q3,.ty "str",T.zE,UF]]]]],#[Jo,#[qq,Qs,pv 4,qm]]]].pt %[|#[qt,qX]] qv|#[qt,#[qZ,Qg,T.QN,vx,#v[#[jh,uT,Up,Uq,mt_splitG,pv 3,#v[pv 4]]]]]]
 exists 7
 erw[sh_bbb (QS aa ()),x0,x,y,rfl,ac,hx,hy]
 exists 0,0;refine bget (i:=1) hB hp rfl hx λv iv=> ?_;exists 0,0;refine bget (i:=2) hB hp rfl hy λu iu=> ?_;have lx:=Y9 (hT x hx);have ly:=Y9 (hT y hy);have U:∀(v:V) (H':Hp),Same H H'->Is H' (cutD (B x) (B y)) v->Q v H':=k;generalize B x=dx at iv U lx⊢;generalize B y=dy at iu U ly⊢;exists 0,v,"str",tyD dx,isStr dx,1,iv.ty,jD _,0;cases dx with
 |str z=>
  refine iteF ⟨0,u,"str",tyD dy,isStr dy,1,iu.ty,jD _,0,?_⟩;cases dy with
  |str O=>
   refine iteF ?_;erw[iv,rfl,_];erw[iu,rfl,_];have h1:z.length<=600:=lx;have h2:O.length<=600:=ly;exists 0,1,0;refine ite2 (λc=> ?_) (λc=> ?_)
   ·have e:O="":=by have:=um c;injection this
    subst e;exact U _ H (Same.refl _) rfl
   ·have h3:O.length≠0:=λh=>c (ub (by
     have:O="":=by
      have h4:O.cps= #[]:=Array.eq_empty_of_size_eq_zero h;cases O;simp only at h4;subst h4
      decide+kernel
     rw [this]))
    refine⟨0,1,0,z,O,1,1,(),(),λp hp=>[p:0:.inl [SqL.of qh:λl hl=> ?_]]⟩
    have s1:Same H (upd H p (.lst ((spG z O).map V.str))):=qg hp _;refine U _ _ (s1.trans (qg hl _)) ?_;show Is _ (if O.length=0 then D.non else .tup ((spG z O).map D.str)) _
    rw [A4 h3];exact Is.new (IsL.ofStrs λq hq=>yq (by have:=spG_mem hq;omega)) hl
  |_=>exact iteT (U _ H (Same.refl _) rfl)
 |_=>exact iteT (U _ H (Same.refl _) (by cases dy<;>rfl))
theorem ok_glue (T:Tx K mg a):#[K,1,a.xU,a.ZQ,["boxes","own","parts"],(X0 "glue")]:=by
 exists 9,T.g_glue_made,JY
 erw[h,d,t,own,B,ps,n,rfl,hB,hT,ho,ae,hp,k];exists _,%[#[qC,(3),JY.nd,#[Qr,#[qH,qF,pv 2,ql]]],#[qC,(4),JY.nd,#[Qr,#[qH,qF,pv 2,ql]]],@qI _ _ _ _ _ _ _ _ #[zy,#[Qy,#[Qj,#[qx,#[qU,2,rfl],T.qS,uX,#v[pv 3,#[Q3,.ty "tuple",T.QN,vx]]]]],#[Jo,#[Qy,#[Qj,#[qx,#[qU,2,rfl],T.qS,uX,#v[pv 4,#[Q3,.ty "str",T.zE,UF]]]]]]].pt %[|#[qt,qX]] qv,#[qI,#[Qy,#[Qj,#[qx,#[wH,1,rfl],T.z_all,HZ,#v[#[zI,["part"],[],lcs0,#[ZN,pv 3],(λ_ _ _ _ _ _=>#[qT,(0),(show Vp (["part"]:oj Str) by decide+kernel)]),(λ_ _ _ _ _ _=>#[qx,#[qU,2,rfl],T.qS,uX,#v[pv 0,#[Q3,.ty "str",T.zE,UF]]])]]]]],%[|#[qt,qX]],qv]|#[qt,#[jh,uT,U5,U6,mt_joinT,pv 4,#v[pv 3]]]]
 exists 7
 erw[sh_bbb (QS ae ()),x0,x,y,rfl,ah,hx,hy]
 exists 0,0;refine bget (i:=1) hB hp rfl hx λv iv=> ?_;exists 0,0;refine bget (i:=2) hB hp rfl hy λu iu=> ?_;have lx:=Y9 (hT x hx);have hg:=hT x hx;have ly:=Y9 (hT y hy);have U:∀(v:V) (H':Hp),Same H H'->Is H' (glueD (B x) (B y)) v->Q v H':=k;generalize B x=dx at iv U lx hg⊢;generalize B y=dy at iu U ly⊢;exists 0,v,"tuple",tyD dx,XH dx,1,iv.ty,JK _,0;cases dx with
 |tup xs=>
  refine iteF ⟨0,u,"str",tyD dy,isStr dy,1,iu.ty,jD _,0,?_⟩;cases dy with
  |str z2=>
   refine iteF ?_;erw[iv,r,rs,rfl,er,ir];erw[iu,rfl,_];have h1:xs.length<=600:=lx;have h2:z2.length<=600:=ly;refine⟨0,r,rs,1,SqT.of er,λak A0 af=> ?_⟩;refine lc_tupS (tl:= []) (λd=> .bl (isStr d)) er ir (fits ()) af (λd0 x0 H3 R al s3 i3 q=>⟨0,x0,"str",tyD d0,isStr d0,1,i3.ty,jD _,q _ H3 (Same.refl _) rfl⟩) λH1 ys s1 l1 i1=> ?_
   have ey:ys=(xs.map isStr).map V.bl:=IsL.bls (by rwa [uK])
   subst ey;exists A0,xs.map isStr,1,SqL.of l1,0;have aa:(xs.map isStr).all id=xr xs:=by rw [kc,UJ];rfl
   rw [aa];cases O:xr xs with
   |false=>exact iteT (U _ H1 s1 (by show Is H1 (if xr xs=v_ then _ else D.non) _;rw [O];rfl))
   |true=>
    have ac:=strs_map O;have ag:rs=(xo xs).map V.str:=IsL.strs (by rwa [<-ac])
    have hsz:=isT_sz hg;have ad:=sum_lens (xo xs);rw [<-ac] at ad;simp only [sz] at hsz;have am:(xo xs).length*z2.length<=600*600:=Nat.mul_le_mul () h2
    have hj:=join_le z2 (xo xs);refine iteF ⟨0,1,0,z2,r,xo xs,1,1,SqT.of (by rw [s1 _ _ er,ag]),(),?_⟩
    refine U _ H1 s1 ?_;show Is H1 (if xr xs=v_ then .str (Vg z2 (xo xs)) else D.non) _
    rw [O];exact[1:fits ()]
  |_=>exact iteT (U _ H (Same.refl _) rfl)
 |_=>exact iteT (U _ H (Same.refl _) (by cases dy<;>rfl))
noncomputable def jump (w:Str)(B:Str->D)(ps:oj Pt):Bool:=if w="like" then eqD (B (b0 ps)) (B (b1 ps)) else if w="rowed" then XH (B (b0 ps)) else if w="none" then decide (lenD (B (b0 ps))=0) else v_
noncomputable def JMP:oj Str:= ["go","like","rowed","none"]
noncomputable def ASK:oj Str:= ["ask","has","names"]
noncomputable def flt (w:Str):D:= .tup [.str "fault",.str w]
noncomputable def askF (w:Str)(held:D):D:=if w="names" then(if isStr held=v_ then .tup [.str "asks",.tup [.str "names",held]] else flt "kind") else if isNm held=v_ then .tup [.str "asks",.tup [.str (if w="ask" then "thing" else "has"),held]] else flt "name"
inductive sp_jump (vs:List V) (H:Hp) (Q:VK) (E_:XK):Prop
 |mk (d t:Addr) (w:Str) (B:Str->D) (ps:List Pt) (n:Nat) (_:vs= [.ref d,.str w,.ref t]) (_:Yo H d B) (_:Tr B) (_:w∈JMP) (_:j7 n 300 (w,ps)) (_:PtsAt H t ps) (_:Q (.bl (jump w B ps)) H)
inductive sp_asked (vs:List V) (H:Hp) (Q:VK) (E_:XK):Prop
 |mk (w:Str) (v:V) (d:D) (_:vs= [.str w,v]) (_:w∈ASK) (_:Is H d v) (_:∀(u:V) (H':Hp),Same H H'->Is H' (askF w d) u->Q u H')
mutual
theorem good_pu:∀{d:D},good d=v_->puD d=v_
 | .str _,_=>rfl
 | .tup xs,h=>by
  simp only [good,ur] at h;show puL xs=v_;exact goodL_pu h.2
 | .non,h| .bl _,h| .int _,h| .lst,h| .dct,h=>by simp [good] at h
theorem goodL_pu:∀{xs:oj D},goodL xs=v_->puL xs=v_
 | [],_=>rfl
 |x::r,h=>by
  simp only [goodL,ur] at h;simp only [puL,good_pu h.1,goodL_pu h.2,tH]
end
theorem good_tr {d:D}(h:good d=v_):trD d=true:=by
 cases d with
 |str z=>rfl
 |tup xs=>exact good_pu (d:= .tup xs) h
 |_=>simp [good] at h
theorem yf {d:D}(h:isT d=v_):good d=true:=by
 unfold isT at h;rw [ur,ur] at h;exact h.1.1
theorem isT_tr {d:D}(h:isT d=v_):trD d=true:=good_tr (yf h)
theorem ok_jump (T:Tx K mg a):#[K,1,a.Jt,a.JD,["boxes","word","parts"],sp_jump]:=by
 exists 9,T.g_is_jump_taken,Zv
 erw[h,d,t,w,B,ps,n,rfl,hB,hT,hw,U,hp,k];exists _,%[#[qI,#[qq,Qs,pv 1,qm],%[|#[qt,#[YA,#[op_eqD,1,hr.units],#[Qr,#[qH,qF,pv 2,ql]],#[Qr,#[qH,qF,pv 2,ql]],qz _]]],qv],#[qI,#[qq,Qs,pv 1,qm],%[|#[qt,#[qx,#[qU,2,rfl],T.qS,uX,#v[#[Qr,#[qH,qF,pv 2,ql]],#[Q3,.ty "tuple",T.QN,vx]]]]],qv],#[qI,#[qq,Qs,pv 1,qm],%[|#[qt,#[YA,Qs,#[qx,Jv,T.yt,uG,#v[#[Qr,#[qH,qF,pv 2,ql]]]],ql,qz _]]],qv]|#[qt,Ja]]
 exists 7
 exists 0,1,0;simp only [JMP,uz,uD,uM] at hw;rcases hw with rfl|rfl|rfl|rfl
 ·refine Qt () ?_
  refine⟨0,1,0,Qt () ?_⟩
  refine⟨0,1,0,Qt () ?_⟩
  exact k
 ·refine QF () ?_
  erw[sh_bbl (QS U ()),x,y,i,rfl,O,hy,_]
  exists 0,0;dsimp only [tC];refine bget (i:=0) hB hp rfl O λv iv=> ?_;exists 0,0;dsimp only [tC];refine bget (i:=1) hB hp rfl hy λu iu=> ?_;refine⟨B x,B y,iv,iu,isT_tr (hT x O),isT_tr (hT y hy),?_,k⟩
  ·have:=ZM (hT x O);omega
 ·refine Qt () ?_
  refine⟨0,1,0,QF () ?_⟩
  erw[sh_bl (QS U ()),x,i,rfl,O,_]
  exists 0,0;refine bget (i:=0) hB hp rfl O λv iv=> ?_;exact⟨v,"tuple",tyD (B x),XH (B x),1,iv.ty,JK _,k⟩
 ·refine Qt () ?_
  refine⟨0,1,0,Qt () ?_⟩
  refine⟨0,1,0,QF () ?_⟩
  erw[sh_bl (QS U ()),x,i,rfl,O,_]
  exists 0,0;refine bget (i:=0) hB hp rfl O λv iv=> ?_;have k':Q (.bl (decide (lenD (B x)=0))) H:=k;have hg:=hT x O;generalize B x=dx at iv k' hg⊢;have hn:∀n:Nat,decide (V.int (n:Int)=V.int 0)=decide (n=0):=λn=>by
   rw [uZ];constructor
   ·intro h;injection h with h;omega
   ·rintro rfl;rfl
  cases dx with
  |str z=>
   erw[iv,rfl,hz];refine .inl ⟨z,1,hz,1,?_⟩;rw [hn];exact k'
  |tup xs=>
   erw[iv,r,rs,rfl,er,ir];refine .inr ⟨r,rs,1,.inr (SqT.of er),λ_=>[1:?_]⟩;rw [hn,ir.length];exact k'
  |_=>simp [isT,good] at hg
theorem ok_asked (T:Tx K mg a):#[K,2,a.jV,a.jP,["word","held"],sp_asked]:=by
 have QX:=#[zf,T];exists 9,T.g_asked_or_fault,zo
 erw[h,w,v,d,rfl,hw,iv,k];exists _,%[#[qI,#[qq,Qs,pv 0,qm],%[|#[qt,#[ye,#[Qj,#[qx,#[qU,2,rfl],T.qS,uX,#v[pv 1,#[Q3,.ty "str",T.zE,UF]]]],#[qE,#v[qm,#[qE,#v[qm,pv 1]]]],#[qE,#v[qm,qm]]]]],qv],#[qI,#[Qy,#[Qj,#[qw,QX,T.g_is_name,#v[pv 1]]]],%[|#[qt,#[qE,#v[qm,qm]]]],qv]|#[qt,#[qE,#v[qm,#[qE,#v[#[ye,#[qq,Qs,pv 0,qm],qm,qm],pv 1]]]]]]
 exists 7
 have two:(2:Nat)<=sizeLine:=by decide
 have st:∀{H:Hp} (z:Str),z.length<=100->Is H (.str z) (.str z):=λz hz=>[1:yq ()]
 have fl:∀(z:Str) (H:Hp) (l:o3),z.length<=100->H l=U_->Is (upd H l (.tup [.str "fault",.str z])) (flt z) (.ref l):=λz H l hz U=>Is.new (ds:= [.str "fault",.str z]) ⟨_,0,st _ (),_,0,st _ hz,1⟩ U
 exists 0,1,0;by_cases c:w="names"
 ·subst c;refine QF () ?_
  have ea:askF "names" d=if isStr d=v_ then .tup [.str "asks",.tup [.str "names",d]] else flt "kind":=by unfold askF;rw [A5 rfl]
  rw [ea] at k;exists 0,v,"str",tyD d,isStr d,1,iv.ty,jD _,0;cases hs:isStr d with
  |true=>
   rw [hs] at k;refine iteT [0:two:λl U=>[two:λl2 O=> ?_]];have t1:Same H (upd H l (.tup [.str "names",v])):=qg U _;refine k _ _ (t1.trans (qg O _)) ?_;exact Is.new (ds:= [.str "asks",.tup [.str "names",d]]) ⟨_,0,st _ (),_,0,Is.new (ds:= [.str "names",d]) ⟨_,0,st _ (),_,0,iv,1⟩ U,1⟩ O
  |false=>
   rw [hs] at k;exact iteF [two:λl U=>k _ _ (qg U _) (fl "kind" H l () U)]
 ·refine Qt (uc λh=>c (by injection h)) ?_
  have ea:askF w d=if isNm d=v_ then .tup [.str "asks",.tup [.str (if w="ask" then "thing" else "has"),d]] else flt "name":=by unfold askF;rw [A4 c]
  rw [ea] at k;refine⟨0,v,d,1,iv,λH1 s1=>[0:?_]⟩;cases hs:isNm d with
  |false=>
   rw [hs] at k;exact iteT [two:λl U=>k _ _ (s1.trans (qg U _)) (fl "name" H1 l () U)]
  |true=>
   rw [hs] at k;refine iteF ⟨0,1,0,?_⟩;have aa:∀z:Str,z.length<=100->z=(if w="ask" then("thing":Str) else "has")->∀l,H1 l=U_->∀l2,(upd H1 l (.tup [.str z,v])) l2=U_->Q (.ref l2) (upd (upd H1 l (.tup [.str z,v])) l2 (.tup [.str "asks",.ref l])):=by
    intro z hz ez l U l2 O;have t1:Same H1 (upd H1 l (.tup [.str z,v])):=qg U _;refine k _ _ (s1.trans (t1.trans (qg O _))) ?_;rw [<-ez];exact Is.new (ds:= [.str "asks",.tup [.str z,d]]) ⟨_,0,st _ (),_,0,Is.new (ds:= [.str z,d]) ⟨_,0,st _ hz,_,0,iv.mono s1.tk,1⟩ U,1⟩ O
   refine ite2 (λc2=> ?_) (λc2=> ?_)
   ·have e:w="ask":=by have:=um c2;injection this
    exact⟨0,two,λl U=>⟨two,λl2 O=>aa "thing" () (by rw [A5 e]) l U l2 O⟩⟩
   ·have e:w≠"ask":=λe=>c2 (ub (by rw [e]))
    exact⟨0,two,λl U=>⟨two,λl2 O=>aa "has" () (by rw [A4 e]) l U l2 O⟩⟩
end
structure Mc where
 (x db dg:o3)
 rs:oj Rw
 own:Str
structure Rn where
 B:Str->D
 p:Int
 n:Nat
 gs:oj D
 th:D
noncomputable def MTH:oj Str:= ["now","answer","asked","lines","copy","go_on","is_waiting","do_row","hold"]
structure Fl (fs:oj (Str×V))(rv ru:V)(own:Str)(db dg:o3)(place:Int)(done:Nat)(tv:V):Prop where
 rows:fs.lookup ("rows":Str)=u_ rv
 rule:fs.lookup ("rule":Str)=u_ ru
 own:fs.lookup ("own":Str)=u_ (.str own)
 boxes:fs.lookup ("boxes":Str)=u_ (.ref db)
 place:fs.lookup ("place":Str)=u_ (.int place)
 done:fs.lookup ("done":Str)=u_ (.int (done:Int))
 given:fs.lookup ("given":Str)=u_ (.ref dg)
 there:fs.lookup ("there":Str)=u_ tv
 meth:∀m∈MTH,fs.lookup m=U_
 len:fs.length<=20
theorem YU {f:Str}{v:V}:∀{fs:oj (Str×V)}{u:V},fs.lookup f=u_ u->(putF f v fs).length=fs.length
 |(g,x)::r,u,h=>by
  unfold putF;by_cases c:g=f
  ·rw [A5 c];rfl
  ·rw [A4 c,ui,ui];have e:(f==g)=false:=by simp;exact λz=>c z.symm
   rw [vi,e] at h;rw [YU (u:=u) h]
 | [],u,h=>by simp at h
section
variable {fs:oj (Str×V)}{rv ru:V}{own:Str}{db dg:o3}{place:Int}{done:Nat}{tv:V}
theorem Fl.set_there {u:V}(h:Fl fs rv ru own db dg place done tv):Fl (putF "there" (u) fs) rv ru own db dg place done u:=by
 refine⟨?_,?_,?_,?_,?_,?_,?_,?_,λm hm=> ?_,by rw [YU h.there];exact h.len⟩
 all_goals rw [qJ]
 all_goals first|rw [A5 rfl]|(rw [A4 ()];first|exact h.rows|exact h.rule|exact h.own|exact h.boxes|exact h.place|exact h.done|exact h.given|exact h.there)|(rw [A4 (λe=>by subst e;revert hm;decide+kernel)];exact h.meth m hm)
theorem Fl.set_place {q:Int}(h:Fl fs rv ru own db dg place done tv):Fl (putF "place" (.int q) fs) rv ru own db dg q done tv:=by
 refine⟨?_,?_,?_,?_,?_,?_,?_,?_,λm hm=> ?_,by rw [YU h.place];exact h.len⟩
 all_goals rw [qJ]
 all_goals first|rw [A5 rfl]|(rw [A4 ()];first|exact h.rows|exact h.rule|exact h.own|exact h.boxes|exact h.place|exact h.done|exact h.given|exact h.there)|(rw [A4 (λe=>by subst e;revert hm;decide+kernel)];exact h.meth m hm)
theorem Fl.set_done {k:Nat}(h:Fl fs rv ru own db dg place done tv):Fl (putF "done" (.int ((k:Nat):Int)) fs) rv ru own db dg place k tv:=by
 refine⟨?_,?_,?_,?_,?_,?_,?_,?_,λm hm=> ?_,by rw [YU h.done];exact h.len⟩
 all_goals rw [qJ]
 all_goals first|rw [A5 rfl]|(rw [A4 ()];first|exact h.rows|exact h.rule|exact h.own|exact h.boxes|exact h.place|exact h.done|exact h.given|exact h.there)|(rw [A4 (λe=>by subst e;revert hm;decide+kernel)];exact h.meth m hm)
end
noncomputable def yM (C:o3)(H:Hp)(m:Mc)(r:Rn):Prop:=
 ∃(dx:o3) (fs:oj (Str×V)) (rv ru tv:V) (gv:oj V),H m.x=u_ (.ins C dx fs)/\Fl fs rv ru m.own m.db m.dg r.p r.n tv/\Is H (.tup (m.rs.map rowD)) rv/\Is H (JG m.rs) ru/\Yo H m.db r.B/\H m.dg=u_ (.lst gv)/\L2.IsL H r.gs gv/\Is H r.th tv
structure Mv (m:Mc)(H H':Hp):Prop where
 kept:∀b o,H b=u_ o->b≠m.x->b≠m.db->b≠m.dg->H' b=u_ o
 tk:Tk H H'
theorem Mv.refl (m:Mc)(H:Hp):Mv m H H:=[λ_ _ e _ _ _=>e:Tk.refl H]
variable {H H1 H2:Hp}
theorem Mv.trans {m:Mc}(h:Mv m H H1)(h2:Mv m H1 H2):Mv m H H2:=[λb o e n1 O U=>h2.kept b o (h.kept b o e n1 O U) n1 O U:h.tk.trans h2.tk]
variable {H':Hp}
theorem Mv.of {m:Mc}(s:Same H H'):Mv m H H':=[λb o e _ _ _=>s b o e:s.tk]
variable {C:o3}
theorem yM.same {m:Mc}{r:Rn}(h:yM C H m r)(s:Same H H'):yM C H' m r:=
 let⟨dx,fs,rv,ru,tv,gv,e,f,i,j,b,g,gl,t⟩:=h;⟨dx,fs,rv,ru,tv,gv,s _ _ e,f,i.mono s.tk,j.mono s.tk,b.same s,s _ _ g,gl.mono s.tk,t.mono s.tk⟩
variable {dx:o3}
theorem Yo.ne {x db:o3}{fs:oj (Str×V)}{B:Str->D}(e:H x=u_ (.ins C dx fs))(h:Yo H db B):db≠x:=λz=>by
 erw[h,f,O,_];rw [z,e] at O;cases O
variable {fs':oj (Str×V)}{rv:V}
theorem yl {m:Mc}{r:Rn}{fs:oj (Str×V)}{ru tv:V}{O:oj V}(e:H m.x=u_ (.ins C dx fs))(f:Fl fs' rv ru m.own m.db m.dg r.p r.n tv)(i:Is H (.tup (m.rs.map rowD)) rv)(j:Is H (JG m.rs) ru)(b:Yo H m.db r.B)(U:H m.dg=u_ (.lst O))(gl:L2.IsL H r.gs O)(t:Is H r.th tv):
  yM C (upd H m.x (.ins C dx fs')) m r/\Mv m H (upd H m.x (.ins C dx fs')):=by
 have tk:Tk H (upd H m.x (.ins C dx fs')):=Tk.updI e;have n1:m.db≠m.x:=Yo.ne e b;have n2:m.dg≠m.x:=λz=>by rw [z,e] at U;cases U
 exact⟨⟨dx,fs',rv,ru,tv,O,qh,f,i.mono tk,j.mono tk,b.move tk (qi n1),by rwa [qi n2],gl.mono tk,t.mono tk⟩,⟨λc o h a1 _ _=>by rwa [qi a1],tk⟩⟩
noncomputable def QH:D->Bool
 | .tup (.str w::_)=>decide (w="asks")
 |_=>V7
noncomputable def Th (d:D):Prop:=d= .non∨∃w e,d= .tup [.str w,e]
inductive Out where
 |go (B:Str->D) (p:Int)|stop (e:D)
noncomputable def Out.B (B:Str->D):Out->Str->D
 | .go B' _=>B'
 | .stop _=>B
noncomputable def Out.P (p:Int):Out->Int
 | .go _ p'=>p'
 | .stop _=>p
noncomputable def Out.T:Out->D
 | .go _ _=> .non
 | .stop e=>e
noncomputable def holdO (B:Str->D)(z:Str)(e:D)(p:Int):Out:=match e with
 | .non=> .stop (flt "kind")
 |e=>if isT e=v_ then .go (setB B z e) (p+1) else .stop (flt "big")
inductive sp_now (C:Addr) (vs:List V) (H:Hp) (Q:VK) (E_:XK):Prop
 |mk (m:Mc) (r:Rn) (_:vs= [.ref m.x]) (_:yM C H m r) (_:∀v,Is H r.th v->Q v H)
inductive sp_asks (C:Addr) (vs:List V) (H:Hp) (Q:VK) (E_:XK):Prop
 |mk (m:Mc) (r:Rn) (_:vs= [.ref m.x]) (_:yM C H m r) (_:∀v H',Same H H'->Is H' (.tup r.gs) v->Q v H')
inductive sp_wait (C:Addr) (vs:List V) (H:Hp) (Q:VK) (E_:XK):Prop
 |mk (m:Mc) (r:Rn) (_:vs= [.ref m.x]) (_:yM C H m r) (_:Th r.th) (_:Q (.bl (QH r.th)) H)
inductive sp_hold (C:Addr) (vs:List V) (H:Hp) (Q:VK) (E_:XK):Prop
 |mk (m:Mc) (r:Rn) (z:Str) (v:V) (e:D) (_:vs= [.ref m.x,.str z,v]) (_:yM C H m r) (_:r.th= .non) (_:z∈BX) (_:Is H e v) (_:∀H',Mv m H H'->yM C H' m ⟨(holdO r.B z e r.p).B r.B,(holdO r.B z e r.p).P r.p,r.n,r.gs,(holdO r.B z e r.p).T⟩->Q .non H')
section
variable {P:o9}{w:og}{K:o0}{mg:Str->om o6}{base:o8}{a:Ad}{g:Ga}
theorem ok_now (T:Tx K mg a):#[K,1,a.XE,a.Xs,["self"],(sp_now a.qo)]:=by
 exists 9,T.g_Machine_now,Ws,O
 erw[h,m,r,rfl,[dx,fs,rv,ru,tv,U,e,f,ir,iu,ib,hg,gl,it],k];exists _,%[|#[qt,#[qN,5,pv 0,rfl]]]
 exists 7
 exact⟨0,m.x,_,dx,fs,tv,1,e,T.qr,T.qL,f.there,k _ it⟩
theorem ok_asks (T:Tx K mg a):#[K,1,a.JI,a.JO,["self"],(sp_asks a.qo)]:=by
 exists 9,T.g_Machine_asked,Zr
 erw[h,m,r,rfl,[dx,fs,rv,ru,tv,U,e,f,ir,iu,ib,hg,gl,it],k];exists _,%[|#[qt,#[qZ,Qg,T.QN,vx,#v[#[qN,5,pv 0,rfl]]]]]
 exists 7
 exact⟨0,m.x,_,dx,fs,0,e,T.qr,T.YB,f.given,m.dg,U,1,.inl [SqL.of hg:λl O=>k _ _ (qg O _) (Is.new gl O)]⟩
theorem ok_wait (T:Tx K mg a):#[K,1,a.Yl,a.Yn,["self"],(sp_wait a.qo)]:=by
 exists 9,T.g_Machine_is_waiting,JP
 erw[h,m,[B,p,n,gs,th],rfl,[dx,fs,rv,ru,tv,gv,e,f,ir,iu,ib,hg,gl,it],O,k];simp only at f ib gl it O k;exists _,%[|#[qt,#[pe_and,7,#[YA,op_notN,#[qN,5,pv 0,rfl],qX,qz _],#[pe_one,#[YA,Qs,#[qH,JS,#[qN,5,pv 0,rfl],ql],qm,qz _]]]]]
 exists 7
 exists 0,m.x,_,dx,fs,tv,1,e,T.qr,T.qL,f.there,1;rcases O with rfl|⟨w1,e1,rfl⟩
 ·cases(show tv= .non from it)
  exact[0:Qt () k]
 ·have U:=it;erw[U,t0,us,rfl,et,iu];refine⟨0,QF (by simp) ⟨0,m.x,_,dx,fs,0,e,T.qr,T.qL,f.there,?_⟩⟩
  refine .inr (.inl (xz (i:=0) (d:= .str w1) it (Qm (j:=0) rfl) λq hq=> ?_));erw[hq,rfl,_];exists 1;have ew:decide (V.str w1=V.str ("asks":Str))=decide (w1="asks"):=by
   rw [uZ];exact⟨λh=>by injection h,λh=>by rw [h]⟩
  rw [ew];exact k
theorem ok_hold (T:Tx K mg a):#[K,3,a.xk,a.xj,["self","box","tree"],(sp_hold a.qo)]:=by
 have yz:=#[jf,T];exists 9,T.g_Machine_hold,wE
 erw[h,m,[B,p,n,gs,th],z,v,d,rfl,[dx,fs,rv,ru,tv,gv,e,f,ir,iu,ib,hg,gl,it],ac,hz,O,k];simp only at f ib gl it ac k;subst ac;exists _,%[|#[qI,#[qq,Ym,pv 2,qX],%[|#[Qc,#[qE,#v[qm,qm]]]],%[|#[qI,#[Qy,#[Qj,#[qw,yz,T.g_is_tree,#v[pv 2]]]],%[|#[Qc,#[qE,#v[qm,qm]]]],%[#[YH,#[qN,5,pv 0,rfl],pv 1,pv 2]|#[Jf,10,pv 0,ql,in_add]]]]]]
 exists 7
 have two:(2:Nat)<=sizeLine:=by decide
 have st:∀{H:Hp} (z:Str),z.length<=100->Is H (.str z) (.str z):=λz hz=>[1:yq ()]
 have fl:∀(z:Str) (H:Hp) (l:o3),z.length<=100->H l=U_->Is (upd H l (.tup [.str "fault",.str z])) (flt z) (.ref l):=λz H l hz U=>Is.new (ds:= [.str "fault",.str z]) ⟨_,0,st _ (),_,0,st _ hz,1⟩ U
 exists 0,1,0;have aa:fs.length<1000:=by have:=f.len;omega
 by_cases c:d= .non
 ·subst c;cases(show v= .non from O)
  refine QF () [two:λl U=> ?_]
  have s1:Same H (upd H l (.tup [.str "fault",.str "kind"])):=qg U _;exists 0,m.x,_,dx,fs,1,s1 _ _ e,T.qr,T.qL,aa;erw[yl (r:=⟨B,p,n,gs,flt "kind"⟩) (s1 _ _ e) (f.set_there (u:= .ref l)) (ir.mono s1.tk) (iu.mono s1.tk) (ib.same s1) (s1 _ _ hg) (gl.mono s1.tk) (fl "kind" H l () U),m1,m2]
  exact k _ ((Mv.of s1).trans m2) m1
 ·have hv:v≠ .non:=by
   rintro rfl;cases d with
   |non=>exact c rfl
   |bl b=>cases(show V.non= .bl b from O)
   |int i=>cases(show V.non= .int i from O)
   |str z=>erw[O,h,_];cases h
   |lst=>erw[O,_,_,h,_];cases h
   |dct=>erw[O,_,_,h,_];cases h
   |tup xs=>erw[O,_,_,h,_];cases h
  have eo:holdO B z d p=if isT d=v_ then .go (setB B z d) (p+1) else .stop (flt "big"):=by
   cases d with
   |non=>exact absurd rfl c
   |_=>rfl
  rw [eo] at k;refine Qt (uc hv) ?_;refine⟨0,v,d,1,O,λH1 s1=>[0:?_]⟩;cases ht:isT d with
  |false=>
   rw [ht] at k;refine iteT [two:λl U=> ?_];have s2:Same H (upd H1 l (.tup [.str "fault",.str "big"])):=s1.trans (qg U _);exists 0,m.x,_,dx,fs,1,s2 _ _ e,T.qr,T.qL,aa;erw[yl (r:=⟨B,p,n,gs,flt "big"⟩) (s2 _ _ e) (f.set_there (u:= .ref l)) (ir.mono s2.tk) (iu.mono s2.tk) (ib.same s2) (s2 _ _ hg) (gl.mono s2.tk) (fl "big" H1 l () U),m1,m2]
   exact k _ ((Mv.of s2).trans m2) m1
  |true=>
   rw [ht] at k;refine iteF ?_;have ae:=O.mono s1.tk;erw[(ib.same s1).put hz ae,kvs,ad,af,t2];have n1:m.db≠m.x:=Yo.ne e ib;have n3:m.dg≠m.db:=λz=>by
    erw[ib,ff,e2,_];rw [z,e2] at hg;cases hg
   have e1:=s1 _ _ e;have e3:(upd H1 m.db (.dK kvs)) m.x=u_ (.ins a.qo dx fs):=by rwa [qi n1.symm]
   exists 0,0,m.x,_,dx,fs,0,e1,T.qr,T.Qw,f.boxes,0,m.db,0,ad;exists 0,m.x,_,dx,fs,0,e3,T.qr,T.Qi,f.place,p,(1),1,1,dx,fs,e3,aa;obtain⟨m1,m2⟩:=yl (r:=⟨setB B z d,p+1,n,gs,.non⟩) e3 (f.set_place (q:=p+1)) ((ir.mono s1.tk).mono t2) ((iu.mono s1.tk).mono t2) af (by rw [qi n3];exact s1 _ _ hg) ((gl.mono s1.tk).mono t2) it
   exact k _ ((Mv.of s1).trans (Mv.trans ⟨λb o h _ a2 _=>by rwa [qi a2],t2⟩ m2)) m1
noncomputable def MKR:oj Str:= ["text","self","copy","row","put","join","first","rest","size","cut","glue"]
noncomputable def lineNo (ps:oj Pt):Int:=match ps.getLast? with
 |some (.n i)=>i
 |_=>0
noncomputable def rowO (own:Str)(r:Rw)(B:Str->D)(p:Int):Out:=
 if r.1∈MKR then holdO B (b0 r.2) (made r.1 B own r.2) p else if r.1∈ASK then .stop (askF r.1 (B (b1 r.2))) else if r.1="say" then .stop (.tup [.str "said",B (b0 r.2)]) else
 if r.1="fault" then .stop (flt "told") else if jump r.1 B r.2=v_ then .go B (lineNo r.2) else .go B (p+1)
theorem frm_mk:∀x∈FRM,x.1∈MKR->x.2.head? =u_ .box:=by decide+kernel
theorem ZY:∀x∈FRM,x.1∈ASK->x.1∉MKR/\x.1∈NOMK/\x.2= [.box,.box]:=by decide+kernel
theorem frm_say:∀x∈FRM,x.1="say"->x.2= [.box]:=by decide+kernel
theorem frm_all:∀x∈FRM,x.1∈MKR∨(x.1∉MKR/\x.1∈NOMK/\(x.1∈ASK∨x.1∉ASK/\(x.1="say"∨x.1="fault"∨x.1≠"say"/\x.1≠"fault"/\x.1∈JMP))):=by decide+kernel
theorem frm_jmp:∀x∈FRM,x.1∈JMP->x.2.getLast? =u_ .line:=by decide+kernel
variable {r:Rw}
theorem mk_b0 {m:Nat}(h:j7 n m r)(U:r.1∈MKR):∃z ps,r.2= .s z::ps/\z∈BX:=by
 erw[h,ks,hk,O];have:=frm_mk _ hk U
 match ks,O,this with
 | .box::ks,O,_=>
  match h2:r.2,O with
  | .s z::ps,O=>exact⟨z,ps,1,O.1⟩
  | .n _::_,O=>exact O.1.elim
theorem WG {n m:Nat}:∀{ks:oj Kd}{ps:oj Pt},Xf n m ks ps->ks.getLast? =u_ .line->∃qs i,ps=qs++ [.n i]/\1<=i/\i<=(n:Int)
 | [k],[p],h,e=>by
  cases e;cases p with
  |n i=>exact⟨[],i,1,h.1⟩
  |s z=>exact h.1.elim
 |k::k2::ks,p::p2::ps,h,e=>by
  rw [US] at e;erw[WG (ks:=k2::ks) (ps:=p2::ps) h.2 e,qs,i,O,hi];exact⟨p::qs,i,by rw [O];rfl,hi⟩
 | [k],p::_::_,h,_=>h.2.elim
 |k::_::_,[p],h,_=>h.2.elim
 | [],[],_,e=>by cases e
 | [],_::_,h,_=>h.elim
 |_::_,[],h,_=>h.elim
theorem jmp_last {m:Nat}(h:j7 n m r)(O:r.1∈JMP):∃qs i,r.2=qs++ [.n i]/\1<=i/\i<=(n:Int)/\lineNo r.2=i:=by
 erw[h,ks,U,hp];erw[WG hp (frm_jmp _ U O),qs,i,e,h1,h2];exists qs,i,e,h1,h2;unfold lineNo;rw [e,List.getLast?_concat]
inductive sp_dorow (C:Addr) (vs:List V) (H:Hp) (Q:VK) (E_:XK):Prop
 |mk (m:Mc) (r:Rn) (rw:Rw) (v:V) (k:Nat) (_:vs= [.ref m.x,v]) (_:yM C H m r) (_:r.th= .non) (_:Tr r.B) (_:m.own.length<=100) (_:j7 k 300 rw) (_:Is H (rowD rw) v) (_:∀H',Mv m H H'->yM C H' m ⟨(rowO m.own rw r.B r.p).B r.B,(rowO m.own rw r.B r.p).P r.p,r.n,r.gs,(rowO m.own rw r.B r.p).T⟩->Q .non H')
variable {x:Str}
theorem mk_of (T:Tx K mg a)(C:Fx K w mg g a)(h:x∈MKR):∃f fd,PySem.W.nsIn K g.makers x=u_ (u_ (.ref f))/\FnOk P w K mg base CX0 1 f fd ["boxes","own","parts"] (X0 x)/\zK K fd ["boxes","own","parts"] []/\PySem.W.keepIn K (.ref f)=true:=by
 simp only [MKR,uz,uD,uM] at h;rcases h with rfl|rfl|rfl|rfl|rfl|rfl|rfl|rfl|rfl|rfl|rfl
 ·exact⟨_,_,C.k_text,ok_text T,T.g_text_made.b,T.g_text_made.F.kp⟩
 ·exact⟨_,_,C.k_self,ok_self T,T.g_self_made.b,T.g_self_made.F.kp⟩
 ·exact⟨_,_,C.k_copy,ok_copy T,T.g_copy_made.b,T.g_copy_made.F.kp⟩
 ·exact⟨_,_,C.k_row,ok_row T,T.g_row_made.b,T.g_row_made.F.kp⟩
 ·exact⟨_,_,C.k_put,ok_put T,T.g_put_made.b,T.g_put_made.F.kp⟩
 ·exact⟨_,_,C.k_join,ok_join T,T.g_join_made.b,T.g_join_made.F.kp⟩
 ·exact⟨_,_,C.k_first,ok_first T,T.g_first_made.b,T.g_first_made.F.kp⟩
 ·exact⟨_,_,C.k_rest,ok_rest T,T.g_rest_made.b,T.g_rest_made.F.kp⟩
 ·exact⟨_,_,C.k_size,ok_size T,T.g_size_made.b,T.g_size_made.F.kp⟩
 ·exact⟨_,_,C.k_cut,ok_cut T,T.g_cut_made.b,T.g_cut_made.F.kp⟩
 ·exact⟨_,_,C.k_glue,ok_glue T,T.g_glue_made.b,T.g_glue_made.F.kp⟩
theorem ok_dorow (T:Tx K mg a)(C:Fx K w mg g a):#[K,4,a.jU,a.jX,["self","row"],(sp_dorow a.qo)]:=by
 have wv:=#[ok_jump,T];have Zt:=#[ok_asked,T];have Wv:=#[ok_hold,T];exists 9,T.g_Machine_do_row,yV
 erw[h,m,[B,p,n,gs,th],r,v,nn,rfl,M,ag,hT,ho,ae,iv,k];simp only at ag hT k;subst ag;exists _,%[#[qC,(2),yV.nd,#[qH,qF,pv 1,ql]],#[qC,(3),yV.nd,#[qH,qF,pv 1,ql]]|#[qI,#[qq,8,op_inK,pv 2,#[pe_gR,C.m_MAKERS],#[w]],%[|#[qV,#[Qv,pv 0,T.qr,T.g_Machine_hold,Wv,#v[#[qH,qF,pv 3,ql],#[pe_callX,9,(1),5,⟨1,1,1,1,1⟩,#[qH,ix_K,#[pe_gR,C.m_MAKERS],pv 2],hr.mono (),#v[#[qN,5,pv 0,rfl],#[qN,5,pv 0,rfl],pv 3],_,_]]]]],%[|#[qI,#[qq,8,QZ,pv 2,#[pe_gR,C.m_ASKING],#[w]],%[|#[Qc,#[qw,Zt,T.g_asked_or_fault,#v[pv 2,#[Qr,6,Qn hr,#[qN,5,pv 0,rfl],#[qH,qF,pv 3,ql],(λ_ _=>rfl)]]]]],%[|#[qI,#[qq,Qs,pv 2,qm],%[|#[Qc,#[qE,#v[qm,#[Qr,6,Qn hr,#[qN,5,pv 0,rfl],#[qH,qF,pv 3,ql],(λ_ _=>rfl)]]]]],%[|#[qI,#[qq,Qs,pv 2,qm],%[|#[Qc,#[qE,#v[qm,qm]]]],%[|#[qI,#[Qj,#[qw,wv,T.g_is_jump_taken,#v[#[qN,5,pv 0,rfl],pv 2,pv 3]]],%[|#[Qc,#[qH,qF,pv 3,#[pe_un,6,un_neg,ql]]]],%[|#[Jf,10,pv 0,ql,in_add]]]]]]]]]]]]
 exists 7
 have two:(2:Nat)<=sizeLine:=by decide
 erw[r,U,ps];erw[iv,t0,us,rfl,et,iu];erw[iu,v1,u1,rfl,[rfl,au],v2,u2,rfl,i2,e2];cases(show u2= [] from e2)
 exists 0,t0,_,(0),0,1,SqT.of et,1;exists 0,t0,_,(1),0,1,SqT.of et,1;erw[id i2,t1,aw,rfl,ax,ay];have ad:PtsAt H t1 ps:=i2;have am:=ae;erw[am,ks,hk,hp];have hM:=M;erw[hM,dx,fs,rv,ru,tv,gv,e,f,ir,ij,ib,hg,gl,it];simp only at f ib gl it;have af:fs.length<1000:=by have:=f.len;omega
 rcases frm_all _ hk with aa|⟨aa,ao,ac⟩
 ·erw[mk_of (P:=P) (base:=base) T C aa,fa,fd,hn,hF,hb,ap];erw[mk_b0 ae aa,z,qs,rfl,aq];have eo:rowO m.own (U,.s z::qs) B p=holdO B z (made U B m.own (.s z::qs)) p:=by unfold rowO;rw [A5 aa];rfl
  rw [eo] at k;exists 0,U,g.makers,0,1,C.km,hn,0;refine iteT ?_;exists 0,m.x,dx,fs,1,e,f.meth _ (),0
  dsimp only [tC];refine box_at (i:=0) ad rfl ?_;exists 0,U,g.makers,_,.ref fa,1,1,C.km,hn,1,fa,fd,_,X0 U,1,hF,hb,ap;exists 0,m.x,_,dx,fs,0,e,T.qr,T.Qw,f.boxes,0,m.x,_,dx,fs,0,e,T.qr,T.XI,f.own,0;refine⟨m.db,t1,m.own,B,.s z::qs,nn,1,ib,hT,ho,ae,ad,λv H1 s1 hv=> ?_⟩;exact⟨m,⟨B,p,n,gs,.non⟩,z,v,0,M.same s1,1,aq,hv,λH2 m2 M2=>k H2 ((Mv.of s1).trans m2) M2⟩
 ·exists 0,U,g.makers,0,1,C.km,C.k_no _ ao,0;refine iteF ?_;exists 0,g.asking,0,.inr (C.asking _),1,1,0;have ei:inV (.str U) [.str "ask",.str "has",.str "names"]=decide (U∈ASK):=wQ (z:=U) (l:=ASK);rw [A4 u9,ei];rcases ac with O|⟨O,ac⟩
  ·refine QF (ub O) ?_;erw[ZY _ hk O,_,_,ek];simp only at ek;subst ek;erw[Z3 hp,z0,z1,rfl,h0,h1];have eo:rowO m.own (U,[.s z0,.s z1]) B p= .stop (askF U (B z1)):=by unfold rowO;rw [A4 aa,A5 O];rfl
   rw [eo] at k;exists 0,0,m.x,_,dx,fs,0,e,T.qr,T.Qw,f.boxes,0;dsimp only [tC];refine bget (i:=1) ib ad rfl h1 λv hv=> ?_;refine⟨U,v,B z1,1,O,hv,λu H1 s1 hu=> ?_⟩;exists 0,m.x,_,dx,fs,1,s1 _ _ e,T.qr,T.qL,af;erw[yl (r:=⟨B,p,n,gs,askF U (B z1)⟩) (s1 _ _ e) (f.set_there (u:=u)) (ir.mono s1.tk) (ij.mono s1.tk) (ib.same s1) (s1 _ _ hg) (gl.mono s1.tk) hu,m1,m2];exact k _ ((Mv.of s1).trans m2) m1
  ·refine Qt (uc O) ?_;exists 0,1,0;have es:∀y:Str,decide (V.str U=V.str y)=decide (U=y):=λy=>by
    rw [uZ];exact⟨λh=>by injection h,λh=>by rw [h]⟩
   rcases ac with rfl|rfl|⟨hs,hf,hj⟩
   ·refine QF (ub rfl) ?_;have ek:=frm_say _ hk rfl;simp only at ek;subst ek;erw[sh_b hp,z0,rfl,h0];have eo:rowO m.own ("say",[.s z0]) B p= .stop (.tup [.str "said",B z0]):=by unfold rowO;rw [A4 aa,A4 O,A5 rfl];rfl
    rw [eo] at k;exists 0,m.x,_,dx,fs,0,e,T.qr,T.Qw,f.boxes,0;dsimp only [tC];refine bget (i:=0) ib ad rfl h0 λv hv=> ?_;refine[two:λl hl=> ?_];have s1:Same H (upd H l (.tup [.str "said",v])):=qg hl _;exists 0,m.x,_,dx,fs,1,s1 _ _ e,T.qr,T.qL,af;erw[yl (r:=⟨B,p,n,gs,.tup [.str "said",B z0]⟩) (s1 _ _ e) (f.set_there (u:= .ref l)) (ir.mono s1.tk) (ij.mono s1.tk) (ib.same s1) (s1 _ _ hg) (gl.mono s1.tk) (Is.new (ds:= [.str "said",B z0]) ⟨_,0,[1:yq ()],_,0,hv,1⟩ hl),m1,m2]
    exact k _ ((Mv.of s1).trans m2) m1
   ·have ah:¬(("fault":Str)="say"):=by decide+kernel
    refine Qt (uc λh=>ah (by injection h)) ?_
    refine⟨0,1,0,QF (ub rfl) ?_⟩;have eo:rowO m.own ("fault",ps) B p= .stop (flt "told"):=by unfold rowO;rw [A4 aa,A4 O,A4 ah,A5 rfl]
    rw [eo] at k;refine[two:λl hl=> ?_];have s1:Same H (upd H l (.tup [.str "fault",.str "told"])):=qg hl _;exists 0,m.x,_,dx,fs,1,s1 _ _ e,T.qr,T.qL,af;erw[yl (r:=⟨B,p,n,gs,flt "told"⟩) (s1 _ _ e) (f.set_there (u:= .ref l)) (ir.mono s1.tk) (ij.mono s1.tk) (ib.same s1) (s1 _ _ hg) (gl.mono s1.tk) (Is.new (ds:= [.str "fault",.str "told"]) ⟨_,0,[1:yq ()],_,0,[1:yq ()],1⟩ hl),m1,m2]
    exact k _ ((Mv.of s1).trans m2) m1
   ·refine Qt (by rw [es];exact uc hs) ?_
    refine⟨0,1,0,Qt (by rw [es];exact uc hf) ?_⟩
    have eo:rowO m.own (U,ps) B p=if jump U B ps=v_ then .go B (lineNo ps) else .go B (p+1):=by unfold rowO;rw [A4 aa,A4 O,A4 hs,A4 hf]
    rw [eo] at k;erw[jmp_last ae hj,qs,i,ak,h1,h2,hl];simp only at ak hl;exists 0,m.x,_,dx,fs,0,e,T.qr,T.Qw,f.boxes,0,0,m.db,t1,U,B,ps,nn,1,ib,hT,hj,ae,ad,0;cases al:jump U B ps with
    |true=>
     rw [al] at k;refine iteT ⟨0,(1),1,?_⟩;refine xz (i:= -1) (d:= .int i) ad (by rw [ak,Vc];exact kC _ _) λq hq=> ?_
     cases(show q= .int i from hq)
     exists 0,m.x,_,dx,fs,1,e,T.qr,T.Qi,af;erw[yl (r:=⟨B,i,n,gs,.non⟩) e (f.set_place (q:=i)) ir ij ib hg gl it,m1,m2];refine k _ m2 ?_;show yM _ _ _ ⟨B,lineNo ps,n,gs,.non⟩;rwa [hl]
    |false=>
     rw [al] at k;refine iteF ⟨0,m.x,_,dx,fs,0,e,T.qr,T.Qi,f.place,p,(1),1,1,dx,fs,e,af,?_⟩;erw[yl (r:=⟨B,p+1,n,gs,.non⟩) e (f.set_place (q:=p+1)) ir ij ib hg gl it,m1,m2];exact k _ m2 m1
noncomputable def jZ (rs:oj Rw)(p:Int):Rw:=rs.getD (p.toNat-1) ("fault",[])
noncomputable def runS (rs:oj Rw)(own:Str)(gs:oj D):Nat->(Str->D)->Int->Nat->Rn
 |0,B,p,n=>⟨B,p,n,gs,if p>rs.length then flt "silent" else flt "long"⟩
 |f+1,B,p,n=>if p>rs.length then⟨B,p,n,gs,flt "silent"⟩ else match rowO own (jZ rs p) B p with
  | .go B' p'=>runS rs own gs f B' p' (n+1)
  | .stop e=>⟨B,p,if QH e=v_ then n else n+1,gs,e⟩
variable {rs:oj Rw}
theorem row_at {p:Int}(h1:1<=p)(h2:p<=rs.length):rs[p.toNat-1]? =u_ (jZ rs p):=by
 unfold jZ;have h:p.toNat-1<rs.length:=by omega
 simp [VW,h]
theorem Kb {p:Int}(h1:1<=p)(h2:p<=rs.length):jZ rs p∈rs:=uQ (row_at h1 h2)
variable {e:D}
theorem Ki {B:Str->D}(h:Tr B)(O:isT e=v_):Tr (setB B z e):=λy U=>by
 unfold setB;by_cases c:y=z
 ·rwa [A5 c]
 ·rw [A4 c];exact h y U
noncomputable def OutOk (n:Int):Out->Prop
 | .go B p=>Tr B/\1<=p/\p<=n+1
 | .stop e=>∃w d,e= .tup [.str w,d]
theorem holdO_ok {B:Str->D}{p n:Int}(h:Tr B)(h1:1<=p)(h2:p<=n):OutOk n (holdO B z e p):=by
 have O:OutOk n (if isT e=v_ then .go (setB B z e) (p+1) else .stop (flt "big")):=by
  by_cases c:isT e=v_
  ·rw [A5 c];exact[Ki h c:():()]
  ·rw [A4 c];exact[_:0]
 cases e with
 |non=>exact[_:0]
 |_=>exact O
theorem askF_ok (w:Str)(d:D):∃u e,askF w d= .tup [.str u,e]:=by
 unfold askF;split
 ·split
  ·exact[_:0]
  ·exact[_:0]
 ·split
  ·exact[_:0]
  ·exact[_:0]
variable {own:Str}
theorem rowO_ok {B:Str->D}{p:Int}(hr:j7 n 300 r)(h:Tr B)(h1:1<=p)(h2:p<=n):OutOk n (rowO own r B p):=by
 unfold rowO;by_cases O:r.1∈MKR
 ·rw [A5 O];exact holdO_ok h h1 h2
 rw [A4 O];by_cases U:r.1∈ASK
 ·rw [A5 U];exact askF_ok _ _
 rw [A4 U];by_cases c3:r.1="say"
 ·rw [A5 c3];exact[_:0]
 rw [A4 c3];by_cases c4:r.1="fault"
 ·rw [A5 c4];exact[_:0]
 rw [A4 c4];by_cases c5:jump r.1 B r.2=v_
 ·rw [A5 c5];erw[id hr,ks,hk,hp];have hj:r.1∈JMP:=by
   rcases frm_all _ hk with q|⟨_,_,q|⟨_,q|q|q⟩⟩
   ·exact absurd q O
   ·exact absurd q U
   ·exact absurd q c3
   ·exact absurd q c4
   ·exact q.2.2
  erw[jmp_last hr hj,qs,i,_,a1,a2,a3];exact⟨h,by rwa [a3],by rw [a3];omega⟩
 ·rw [A4 c5];exact[h:():()]
inductive sp_goon (C:Addr) (vs:List V) (H:Hp) (Q:VK) (E_:XK):Prop
 |mk (m:Mc) (r:Rn) (_:vs= [.ref m.x]) (_:yM C H m r) (_:r.th= .non) (_:Tr r.B) (_:m.own.length<=100) (_:yb m.rs) (_:1<=r.p) (_:r.p<=m.rs.length+1) (_:r.n<=300) (_:∀(H':Hp),Mv m H H'->yM C H' m (runS m.rs m.own r.gs (300-r.n) r.B r.p r.n)->Q .non H')
theorem ok_goon (T:Tx K mg a)(C:Fx K w mg g a):#[K,5,a.Ju,a.JE,["self"],(sp_goon a.qo)]:=by
 have Zq:=#[ok_dorow,T,C];have Qo:=#[ok_wait,T];exists 9,T.g_Machine_go_on,Zp
 erw[h,[x,db,dg,rs,own],[B0,p0,n0,gs,th],rfl,M0,ax,ay,ho,hR,aF,aA,aG,k];simp only at ax ay ho hR aF aA aG k;subst ax;exists _,%[|#[J5,#[qq,Ym,#[qN,5,pv 0,rfl],qX],%[|#[qI,#[qq,op_gt,#[qN,5,pv 0,rfl],#[qx,qM,T.yt,uG,#v[#[qN,5,pv 0,rfl]]]],%[|#[Qc,#[qE,#v[qm,qm]]]],%[|#[qI,#[qq,Qs,#[qN,5,pv 0,rfl],#[Kg,T.m_MOST_DONE]],%[|#[Qc,#[qE,#v[qm,qm]]]],%[#[qV,#[Qv,pv 0,T.qr,T.g_Machine_do_row,Zq,#v[#[qH,qF,#[qN,5,pv 0,rfl],#[qY,op_sub,#[qN,5,pv 0,rfl],ql]]]]]|#[qI,#[Qy,#[Qj,#[QB,pv 0,T.qr,T.g_Machine_is_waiting,Qo]]],%[|#[Jf,10,pv 0,ql,in_add]],qv]]]]]]]]
 exists 7
 have two:(2:Nat)<=sizeLine:=by decide
 have n1:=hR.n1;generalize aB:runS rs own gs (300-n0) B0 p0 n0=res at k
 let J1_:Nat->L2.St->Hp->Prop:=λm σ H'=>∃(B:Str->D) (p:Int) (n:Nat) (th:D),σ= [u_ (.ref x)]/\yM a.qo H' ⟨x,db,dg,rs,own⟩ ⟨B,p,n,gs,th⟩/\Mv ⟨x,db,dg,rs,own⟩ H H'/\Tr B/\1<=p/\p<=rs.length+1/\n<=300/\((th= .non/\runS rs own gs (300-n) B p n=res/\m=301-n)∨((∃u e,th= .tup [.str u,e])/\⟨B,p,n,gs,th⟩=res/\m=0))
 exists J1_,⟨_,B0,p0,n0,.non,1,M0,Mv.refl _ _,ay,(),(),(),.inl [1:aB:1]⟩
 rintro m σ H' ⟨B,p,n,th,rfl,M,mv,hT,ae,am,hn,hc⟩;have hM:=M;erw[hM,dx,fs,rv,ru,tv,gv,e,f,ir,ij,ib,hg,gl,it];simp only at e f ir ij ib hg gl it;have aC:fs.length<1000:=by have:=f.len;omega
 exists 0,x,_,dx,fs,tv,1,e,T.qr,T.qL,f.there,1,0;rcases hc with⟨rfl,aa,rfl⟩|⟨⟨u,d,rfl⟩,aa,rfl⟩
 ·cases(show tv= .non from it)
  have ah:∀{H:Hp},Is H .non .non:=rfl;refine QF () ?_
  refine⟨λσ' H2=>∃(B:Str->D) (p:Int) (n2:Nat) (th:D),σ'= [u_ (.ref x)]/\yM a.qo H2 ⟨x,db,dg,rs,own⟩ ⟨B,p,n2,gs,th⟩/\Mv ⟨x,db,dg,rs,own⟩ H H2/\Tr B/\1<=p/\p<=rs.length+1/\n2<=300/\((th= .non/\runS rs own gs (300-n2) B p n2=res/\n<n2)∨((∃u e,th= .tup [.str u,e])/\⟨B,p,n2,gs,th⟩=res)),?_,?_⟩
  ·rintro σ' H2 ⟨B2,p2,n2,aN,rfl,M2,af,aD,a1,a2,a3,aH⟩;rcases aH with⟨rfl,q1,q2⟩|⟨q0,q1⟩
   ·exact⟨301-n2,(),B2,p2,n2,0,M2,af,aD,a1,a2,a3,.inl [1:q1:1]⟩
   ·exact⟨(0),(),B2,p2,n2,0,M2,af,aD,a1,a2,a3,.inr [q0:q1:1]⟩
  ·have aI:=ir;erw[aI,ta,us,rfl,aJ,iu];have aO:us.length=rs.length:=by rw [iu.length,ua]
   have fl:∀(z:Str) (H:Hp) (l:o3),z.length<=100->H l=U_->Is (upd H l (.tup [.str "fault",.str z])) (flt z) (.ref l):=λz H l hz hl=>Is.new (ds:= [.str "fault",.str z]) ⟨_,0,[1:yq ()],_,0,[1:yq ()],1⟩ hl
   have ac:∀(z:Str),z.length<=100->⟨B,p,n,gs,flt z⟩=res->∀l,H' l=U_->(λH2=>∃(B:Str->D) (p:Int) (n2:Nat) (th:D),[u_ (V.ref x)]= [u_ (V.ref x)]/\yM a.qo H2 ⟨x,db,dg,rs,own⟩ ⟨B,p,n2,gs,th⟩/\Mv ⟨x,db,dg,rs,own⟩ H H2/\Tr B/\1<=p/\p<=rs.length+1/\n2<=300/\((th= .non/\runS rs own gs (300-n2) B p n2=res/\n<n2)∨((∃u e,th= .tup [.str u,e])/\⟨B,p,n2,gs,th⟩=res))) (upd (upd H' l (.tup [.str "fault",.str z])) x (.ins a.qo dx (putF "there" (.ref l) fs))):=by
    intro z hz aK l hl;have s1:Same H' (upd H' l (.tup [.str "fault",.str z])):=qg hl _;erw[yl (m:=⟨x,db,dg,rs,own⟩) (r:=⟨B,p,n,gs,flt z⟩) (s1 _ _ e) (f.set_there (u:= .ref l)) (ir.mono s1.tk) (ij.mono s1.tk) (ib.same s1) (s1 _ _ hg) (gl.mono s1.tk) (fl z H' l hz hl),m1,m2];exact⟨B,p,n,flt z,1,m1,mv.trans ((Mv.of s1).trans m2),hT,ae,am,hn,.inr [[_:0]:aK]⟩
   exists 0,x,_,dx,fs,0,e,T.qr,T.Qi,f.place,0,x,_,dx,fs,0,e,T.qr,T.y8,f.rows,ta,us,1,.inr (SqT.of aJ),_,0,1,0;refine ite2 (λc=> ?_) (λc=> ?_)
   ·have c':p>rs.length:=by have:=um c;omega
    have er:⟨B,p,n,gs,flt "silent"⟩=res:=by
     rw [<-aa];cases h3:300-n with
     |zero=>unfold runS;rw [A5 c']
     |succ q=>unfold runS;rw [A5 c']
    refine[two:λl hl=> ?_];have s1:Same H' (upd H' l (.tup [.str "fault",.str "silent"])):=qg hl _;exact⟨0,x,_,dx,fs,1,s1 _ _ e,T.qr,T.qL,aC,ac "silent" () er l hl⟩
   ·have c':¬p>rs.length:=λh=>c (ub ())
    exists 0,x,_,dx,fs,0,e,T.qr,T.Q9,f.done,1,0;refine ite2 (λc2=> ?_) (λc2=> ?_)
    ·have e3:n=300:=by have:=um c2;injection this with h;omega
     have er:⟨B,p,n,gs,flt "long"⟩=res:=by
      rw [<-aa,e3];show _=runS rs own gs 0 B p 300;unfold runS;rw [A4 c']
     refine[two:λl hl=> ?_];have s1:Same H' (upd H' l (.tup [.str "fault",.str "long"])):=qg hl _;exact⟨0,x,_,dx,fs,1,s1 _ _ e,T.qr,T.qL,aC,ac "long" () er l hl⟩
    ·have e3:n<300:=by
      rcases UZ n 300 with h|h
      ·exact h
      ·exact absurd (ub (by rw [show n=300 by omega];rfl)) c2
     have ao:p<=rs.length:=by omega
     have aE:=hR.ok _ (Kb ae ao);have hok:=rowO_ok (own:=own) aE hT ae ao;have U:res=match rowO own (jZ rs p) B p with
       | .go B' p'=>runS rs own gs (300-(n+1)) B' p' (n+1)
       | .stop e=>⟨B,p,if QH e=v_ then n else n+1,gs,e⟩:=by
      rw [<-aa,show 300-n=(300-(n+1))+1 by omega,runS,A4 c']
     exists 0,x,dx,fs,1,e,f.meth _ ()
     exists 0,x,_,dx,fs,0,e,T.qr,T.y8,f.rows,0,x,_,dx,fs,0,e,T.qr,T.Qi,f.place,_,0,1;have aL:atI (rs.map rowD) (p-1)=u_ (rowD (jZ rs p)):=by
      rw [show p-1=((p.toNat-1:Nat):Int) by omega]
      exact Qm (by rw [uE,row_at ae ao];rfl)
     refine xz (d:=rowD (jZ rs p)) ir aL λq hq=> ?_;refine⟨⟨x,db,dg,rs,own⟩,⟨B,p,n,gs,.non⟩,jZ rs p,q,rs.length,1,M,1,hT,ho,aE,hq,λH2 m2 M2=> ?_⟩;have aM:=M2;erw[aM,ag,ad,aP,aQ,aR,aS,e2,f2,ap,aq,ak,au,aw,ah];simp only at e2 f2 ap aq ak au aw ah;have al:ad.length<1000:=by have:=f2.len;omega
     have af:=mv.trans m2;generalize hO:rowO own (jZ rs p) B p=O at hok U M2 ah ak f2;cases O with
     |go B' p'=>
      erw[hok,q1,q2,q3];exists 0,x,ag,ad,1,e2,f2.meth _ (),_,0,M2,.inl rfl,0
      refine QF rfl ?_;exists 0,x,_,ag,ad,0,e2,T.qr,T.Q9,f2.done,(n:Int),(1),1,1,ag,ad,e2,al;erw[yl (m:=⟨x,db,dg,rs,own⟩) (r:=⟨B',p',n+1,gs,.non⟩) e2 (f2.set_done (k:=n+1)) ap aq ak au aw ah,m3,m4];exact⟨B',p',n+1,.non,1,m3,af.trans m4,q1,q2,q3,(),.inl [1:U.symm:()]⟩
     |stop d=>
      erw[hok,u,d2,rfl];exists 0,x,ag,ad,1,e2,f2.meth _ (),_,0,M2,.inr [_:0],0
      cases hw:QH (.tup [.str u,d2]) with
      |true=>
       simp only [hw] at U;refine Qt (by show(!QH (.tup [.str u,d2]))=V7;rw [hw];rfl) ?_
       exact⟨B,p,n,0,M2,af,hT,ae,am,hn,.inr [[_:0]:U.symm]⟩
      |false=>
       simp only [hw] at U;refine QF (by show(!QH (.tup [.str u,d2]))=v_;rw [hw];rfl) ?_
       exists 0,x,_,ag,ad,0,e2,T.qr,T.Q9,f2.done,(n:Int),(1),1,1,ag,ad,e2,al;erw[yl (m:=⟨x,db,dg,rs,own⟩) (r:=⟨B,p,n+1,gs,.tup [.str u,d2]⟩) e2 (f2.set_done (k:=n+1)) ap aq ak au aw ah,m3,m4];exact⟨B,p,n+1,0,m3,af.trans m4,hT,ae,am,(),.inr [[_:0]:U.symm]⟩
 ·have:tv≠ .non:=by erw[it,_,_,h,_];rw [h];exact λz=>by cases z
  refine Qt (uc this) ?_;refine k H' mv ?_;rw [<-aa];exact M
noncomputable def emp (z:Str):D:= .tup [.str z,.str ""]
theorem prs_of {H:Hp}:∀{zs:oj Str}{ys:oj V},L2.IsL H (zs.map emp) ys->∃ts:oj o3,ys=ts.map V.ref/\ts.length=zs.length/\∀(i:Nat) (t:o3) (z:Str),ts[i]? =u_ t->zs[i]? =u_ z->H t=u_ (.tup [.str z,.str ""])
 | [],_,h=>by
  cases(show _= [] from h)
  exact⟨[],1,1,λi t z h=>by simp at h⟩
 |y::zs,_,h=>by
  erw[h,v,r,rfl,[t,us,rfl,O,v1,u1,rfl,[rfl,_],v2,U,rfl,[rfl,_],e2],h2];cases(show U= [] from e2)
  erw[prs_of h2,ts,rfl,hl,hi];refine⟨t::ts,1,by rw [ui,hl];rfl,λi q z h1 h3=> ?_⟩
  cases i with
  |zero=>
   cases h1;cases h3;exact O
  |succ j=>exact hi j q z (by simpa using h1) (by simpa using h3)
variable {ys:oj V}
theorem prs_box {A:o3}(e:H A=u_ (.lst ys))(h:L2.IsL H (BX.map emp) ys):PairsL H A (BX.map λz=>(z,V.str "")):=by
 erw[prs_of h,ts,rfl,U,hi];refine⟨ts,e,by rw [U,ua],λi t p h1 h2=> ?_⟩
 rw [uE] at h2;cases O:BX[i]? with
 |none=>rw [O] at h2;cases h2
 |some z=>
  rw [O] at h2;cases h2;exact hi i t z h1 O
noncomputable def B0:Str->D:=λ_=> .str ""
variable {q:o3}
theorem box_new (O:H q=U_):Yo (upd H q (.dK (inrK (BX.map λz=>(z,V.str ""))))) q B0:=by
 refine[λ_=> .str "":?_:λz _=>[1:yq ()]]
 rw [qh];unfold inrK kvB;rw [uK]
 rfl
theorem B0_tr:Tr B0:=λ_ _=>(by decide+kernel:isT (.str "")=v_)
theorem bx_nodup:((BX.map λz=>(z,V.str "")).map (·.1)).Nodup:=by
 rw [uK];show(BX.map id).Nodup;rw [V4]
 decide+kernel
theorem putF_le (f:Str)(v:V):∀fs:oj (Str×V),(putF f v fs).length<=fs.length+1
 | []=>uh _
 |(g,x)::r=>by
  unfold putF;by_cases c:g=f
  ·rw [A5 c];simp
  ·rw [A4 c];have:=putF_le f v r;simp only [ui];omega
noncomputable def FLD:oj Str:= ["rows","rule","own","boxes","place","done","given","there"]
theorem mth_fld:∀m∈MTH,m∉FLD:=by decide+kernel
variable {v:V}
theorem fl_new {db dg:o3}(O:(putF "there" .non (putF "given" (.ref dg) (putF "done" (.int 0) (putF "place" (.int 1) (putF "boxes" (.ref db) (putF "own" (.str own) (putF "rule" v (putF "rows" rv [])))))))).length<=20):
  Fl (putF "there" .non (putF "given" (.ref dg) (putF "done" (.int 0) (putF "place" (.int 1) (putF "boxes" (.ref db) (putF "own" (.str own) (putF "rule" v (putF "rows" rv [])))))))) rv v own db dg 1 0 .non:=by
 refine⟨?_,?_,?_,?_,?_,?_,?_,?_,λm hm=> ?_,O⟩
 ·iterate 7 rw [qJ,A4 ()]
  rw [qJ,A5 rfl]
 ·iterate 6 rw [qJ,A4 ()]
  rw [qJ,A5 rfl]
 ·iterate 5 rw [qJ,A4 ()]
  rw [qJ,A5 rfl]
 ·iterate 4 rw [qJ,A4 ()]
  rw [qJ,A5 rfl]
 ·iterate 3 rw [qJ,A4 ()]
  rw [qJ,A5 rfl]
 ·iterate 2 rw [qJ,A4 ()]
  rw [qJ,A5 rfl]
  rfl
 ·rw [qJ,A4 (),qJ,A5 rfl]
 ·rw [qJ,A5 rfl]
 ·have h:=mth_fld m hm
  iterate 8 rw [qJ,A4 (λe=>h (by rw [e];decide+kernel))]
  rfl
structure Ini (n:Nat)(H:Hp)(C x dx:o3)(fs:oj (Str×V))(H':Hp):Prop where
 len:fs.length<=n
 at':H' x=u_ (.ins C dx fs)
 kept:∀b o,H b=u_ o->b≠x->H' b=u_ o
theorem Ini.put {x:o3}{fs:oj (Str×V)}(I:Ini n H C x dx fs H')(f:Str)(v:V):Ini (n+1) H C x dx (putF f v fs) (upd H' x (.ins C dx (putF f v fs)))/\Tk H' (upd H' x (.ins C dx (putF f v fs))):=
 ⟨⟨uI (putF_le f v fs) (rp I.len),qh,λb o h n=>by rw [qi n];exact I.kept b o h n⟩,Tk.updI I.at'⟩
theorem Ini.same {x:o3}{fs:oj (Str×V)}(I:Ini n H C x dx fs H')(s:Same H' H2):Ini n H C x dx fs H2:=[I.len:s _ _ I.at':λb o h n=>s _ _ (I.kept b o h n)]
theorem lc_box {K:o0}{b A:o3}{H1:Hp}{te:TE}{tl:L2.St}{Q:VK}(O:∀H,SqT K H b (BX.map V.str))(hA:H1 A=U_)
  (U:∀(z:Str) H (R:VK),z.length<=Vb->Same H1 H->(∀y H',Same H H'->Is H' (emp z) y->R y H')->te (u_ (.str z)::tl) H R)
  (hQ:∀H' ys,Same H1 H'->H' A=u_ (.lst ys)->L2.IsL H' (BX.map emp) ys->Q (.ref A) H'):lcGo A (Itt K b) (jI 0) tYes te (U_::tl) H1 Q:=by
 have hl:∀H,L2.IsL H (BX.map D.str) (BX.map V.str):=λH=>IsL.ofStrs λz hz=>yq (by rw [(box_ok hz).1];decide)
 refine lc_data (ds:=BX.map D.str) (λd=>match d with| .str z=>emp z|d=>d) (yq ()) hA (λi H sm hi=>⟨BX.map V.str,(BX.map V.str)[i]'(by simpa using hi),O H,ug _⟩) (λi H x H' d sm hd y=> ?_) (λH sm=>⟨BX.map V.str,O H,by simp⟩) (λd x H R hd sm hx r=> ?_) (λH' ys sm e h=>hQ H' ys sm e ?_)
 ·erw[y,rfl,y];erw[(hl H').get hd,v,e1,e2];have:=y _ (O H');rw [e1] at this;cases this;exact[1:e2]
 ·erw[Ab.mp hd,z,_,rfl];erw[hx,rfl,hz];exact U z H R hz sm r
 ·rwa [uK] at h
theorem isNm_str:∀{d:D},isNm d=v_->∃own,d= .str own/\nm own=v_/\own.length<=100
 | .str z,h=>⟨z,1,h,by
  rcases UZ 24 z.length with h1|h1
  ·rw [show isNm (.str z)=nm z from rfl,nm_len (λq=>by omega)] at h
   cases h
  ·omega⟩
theorem back_rows {n:Nat}:∀{ds:oj D},ds.all (λd=>(Qk n d).isSome)=v_->((ds.filterMap (Qk n)).map λr=>D.str (Yb r))=ds/\(ds.filterMap (Qk n)).length=ds.length/\∀r∈ds.filterMap (Qk n),j7 n 300 r
 | [],_=>⟨1,1,λr h=>by simp at h⟩
 |d::ds,h=>by
  rw [vz,ur] at h;erw[XA h.1,r,O];erw[back_rows h.2,i1,i2,i3];cases d with
  |str z=>
   obtain⟨h1,h2⟩:=rowOf_ok (show wU n z=u_ r from O)
   rw [Uf O];refine⟨by rw [uq,h2,i1],by rw [ui,ui,i2],λx U=> ?_⟩
   rcases A8.mp U with rfl|U
   ·exact h1
   ·exact i3 x U
  |_=>cases O
theorem readD_ok:∀{d:D}{rs:oj Rw},Q1 d=u_ rs->yb rs/\d=JG rs
 | .tup ds,rs,h=>by
  rw [X5] at h;split at h
  ·rename_i O
   cases h;simp only [ur,uH] at O;erw[O,[[h1,h2],h3],h4];erw[back_rows h3,U,i2,i3];have e:JG (ds.filterMap (Qk ds.length))= .tup ds:=congrArg D.tup U;exact⟨⟨(),(),λr hr=>by rw [i2];exact i3 r hr,by rwa [e]⟩,e.symm⟩
  ·cases h
inductive sp_minit (C br bn:Addr) (vs:List V) (H:Hp) (Q:VK) (E:XK):Prop
 |mk (x dx:Addr) (v ov:V) (d od:D) (_:vs= [.ref x,v,ov]) (_:H x=u_ (.ins C dx [])) (_:Is H d v) (_:Is H od ov) (_:(Q1 d=U_->∀(e:Addr) (H':Hp),(∀b o,H b=u_ o->b≠x->H' b=u_ o)->E (.ref e) (u_ br) H')) (_:(Q1 d≠U_->isNm od=V7->∀(e:Addr) (H':Hp),(∀b o,H b=u_ o->b≠x->H' b=u_ o)->E (.ref e) (u_ bn) H')) (_:(∀(rs:List Rw) (own:Str),d=JG rs->yb rs->od= .str own->nm own=v_->own.length<=100->∀(H':Hp) (db dg:Addr),(∀b o,H b=u_ o->b≠x->H' b=u_ o)->H db=U_->H dg=U_->yM C H' ⟨x,db,dg,rs,own⟩ (runS rs own [] 300 B0 1 0)->Q .non H'))
theorem ok_minit (T:Tx K mg a)(C:Fx K w mg g a):FnOk P w K mg base (CX1 P w) 6 a.Y3 a.xv ["self","rule","own"] (sp_minit a.qo g.br g.bn):=by
 have QX:=#[zf,T];have O:=#[ok_rows,T,C];have Ys:=#[ok_goon,T,C];refine T.g_Machine_init.F.okX ZU () (λ_ _ _ _ H _ Q E hr h=> ?_)
 erw[h,x,dx,v,ov,d,od,rfl,hx,hv,ho,kR,kN,k];exists _,%[#[Qc,#[qw,16,O,hr.mono (),_,T.g_rule_rows.m,T.g_rule_rows.F.kp,T.g_rule_rows.b,.nil,pass1,#v[pv 1],_,_,_]],#[qI,#[Qy,#[Qj,#[qw,QX,T.g_is_name,#v[pv 2]]]],%[|#[ps_raise,22,C.x_BadName,_,C.m_BadName,qm,_,_]],qv],#[Qc,pv 1],#[Qc,pv 2],#[Qc,#[qZ,#[call_dictP,1,rfl],T.z_dict,Ti,#v[#[zI,["box"],[],lcs0,#[ZN,#[pe_gR,C.m_BOXES]],(λ_ _ _ _ _ _=>#[qT,(0),(show Vp (["box"]:oj Str) by decide+kernel)]),(λ_ _ _ _ _ _=>#[qE,#v[pv 0,qm]])]]]],#[Qc,ql],#[Qc,ql],#[Qc,#[QT,qd]],#[Qc,qX]|#[qV,#[QB,pv 0,T.qr,T.g_Machine_go_on,Ys]]]
 exists 7
 refine⟨0,v,d,1,hv,λrs am rv H1 s1 ir=> ?_,λhn e H1 s1=>kR hn e H1 λb o h _=>s1 b o h⟩;exists 0,x,_,dx,[],1,s1 _ _ hx,T.qr,T.y8,()
 have I0:Ini 0 H a.qo x dx [] H1:=[uh _:s1 _ _ hx:λb o h _=>s1 _ _ h];erw[I0.put "rows" rv,I1,t1];have aB:=ir.mono t1;have htk:∀{n:Nat}{fs:oj (Str×V)}{H':Hp},Ini n H a.qo x dx fs H'->Tk H H':=λ{n fs H'} I=>⟨λb xs e=>I.kept b _ e (λz=>by rw [z,hx] at e;cases e),λb xs e=>⟨_,I.kept b _ e (λz=>by rw [z,hx] at e;cases e)⟩,λb xs e=>⟨_,I.kept b _ e (λz=>by rw [z,hx] at e;cases e)⟩⟩
 refine⟨0,ov,od,1,ho.mono (htk I1),λH3 s3=>[0:?_]⟩;have I3:=I1.same s3;cases ad:isNm od with
 |false=>exact iteT ⟨1,λe=>kN (by rw [am];simp) ad e H3 I3.kept⟩
 |true=>
 refine iteF ?_;erw[readD_ok am,hR,rfl];erw[isNm_str ad,own,rfl,ad,ao];cases(show ov= .str own from ho.1)
 have n1:=hR.n1;have k:=k rs own rfl hR rfl ad ao;have aC:=aB.mono s3.tk;refine⟨0,0,x,_,dx,0,I3.at',T.qr,T.Ww,by have:=I3.len;omega,?_⟩
 erw[I3.put "rule" v,I4,t4];have aD:=aC.mono t4;refine⟨0,0,x,_,dx,0,I4.at',T.qr,T.XI,by have:=I4.len;omega,?_⟩
 erw[I4.put "own" (.str own),I5,t5];have aE:=aD.mono t5;refine⟨g.boxes,0,C.boxes _,λaP A0 aF=> ?_⟩;refine lc_box (tl:= []) C.boxes aF (λz H6 R hz s6 r=>[0:(sml rfl):λl hl=>r _ _ (qg hl _) (Is.new (ds:= [.str z,.str ""]) ⟨_,0,[1:hz],_,0,[1:yq ()],1⟩ hl)]) λH6 ys s6 e6 i6=> ?_
 refine⟨A0,0,prs_box e6 i6,bx_nodup,(),λdb aa=> ?_⟩
 have I6:=I5.same s6;have s7:Same H6 (upd H6 db (.dK (inrK (BX.map λz=>(z,V.str ""))))):=qg aa _;have I7:=I6.same s7;have b7:=box_new aa;have aG:=(aE.mono s6.tk).mono s7.tk;have nx:∀b o,H b=u_ o->b≠x->b≠db:=λb o h n=>qk (I6.kept b o h n) aa;have U:x≠db:=qk I6.at' aa;refine⟨0,x,_,dx,0,I7.at',T.qr,T.Qw,by have:=I7.len;omega,?_⟩
 erw[I7.put "boxes" (.ref db),I8,t8];have b8:=b7.move t8 (qi U.symm);have aH:=aG.mono t8;refine⟨0,x,_,dx,0,I8.at',T.qr,T.Qi,by have:=I8.len;omega,?_⟩
 erw[I8.put "place" (.int 1),I9,t9];have b9:=b8.move t9 (qi U.symm);have aI:=aH.mono t9;refine⟨0,x,_,dx,0,I9.at',T.qr,T.Q9,by have:=I9.len;omega,?_⟩
 erw[I9.put "done" (.int 0),ae,ap];have aJ:=b9.move ap (qi U.symm);have aq:=aI.mono ap;refine[(sml rfl):λdg af=> ?_];have ag:=qg af (.lst []);have ah:=ae.same ag;have aK:=aJ.same ag;have au:=aq.mono ag.tk;have ak:dg≠x:=(qk ae.at' af).symm;refine⟨0,x,_,dx,0,ah.at',T.qr,T.YB,by have:=ah.len;omega,?_⟩
 erw[ah.put "given" (.ref dg),al,aw];have aL:=aK.move aw (qi U.symm);have ax:=au.mono aw;refine⟨0,x,_,dx,0,al.at',T.qr,T.qL,by have:=al.len;omega,?_⟩
 erw[al.put "there" .non,ac,ay];have aM:=aL.move ay (qi U.symm);have aA:=ax.mono ay;have hl:=ac.len;exists 0,x,dx,0,ac.at',(fl_new ()).meth _ ()
 have aN:Is _ (JG rs) v:=hv.mono (htk ac);have frs:∀{b:o3}{H2:Hp},(∀c o,H c=u_ o->c≠x->H2 c=u_ o)->H2 b=U_->b≠x->H b=none:=λ{b H2} k1 h1 n1=>by
  cases hc:H b with
  |none=>rfl
  |some o=>rw [k1 b o hc n1] at h1;cases h1
 have aO:∀b o,H b=u_ o->b≠x->b≠dg:=λb o h n=>qk (ae.kept b o h n) af;refine⟨⟨x,db,dg,rs,own⟩,⟨B0,(1),(0),[],.non⟩,1,⟨dx,_,rv,v,.non,[],ac.at',fl_new (),aA,aN,aM,?_,1,1⟩,1,B0_tr,ao,hR,Int.le_refl 1,by show(1:Int)<=(rs.length:Int)+1;omega,uN _,λH' m M=>k H' db dg (λb o h n=>m.kept b o (ac.kept b o h n) n (nx b o h n) (aO b o h n)) (frs I6.kept aa U.symm) (frs ae.kept af ak) M⟩
 rw [qi ak,qi ak,qh]
noncomputable def jY (z:Str):Bool:=z.cps.toList.all QD
theorem okAll_app {y:Str}(h:jY z=v_)(k:jY y=v_):jY (z++y)=true:=by
 unfold jY at*;show(z.cps++y.cps).toList.all QD=v_;rw [tN,UR,h,k];rfl
mutual
noncomputable def lw:D->Bool
 | .str z=>jY z
 | .tup xs=>lwL xs
 |_=>V7
noncomputable def lwL:oj D->Bool
 | []=>v_
 |x::r=>lw x&&lwL r
end
theorem kU (z:Str):z.length=z.cps.toList.length:=by show z.cps.size=_;simp
theorem isT_short (h:jY z=v_)(O:z.length<=300):isT (.str z)=true:=by
 have U:Qp z=true:=by
  unfold Qp;rwa [ub O,Hq]
 have e1:sz (.str z)<=600:=by simp only [sz];omega
 have e2:dp (.str z)<=12:=by simp only [dp];omega
 have e3:good (.str z)=true:=by simp only [good];exact U
 unfold isT;rw [e3,ub e1,ub e2]
 rfl
noncomputable def isP:D->Bool
 | .tup xs=>decide (xs.length=2)
 |_=>V7
noncomputable def isSrc:D->Bool
 | .tup [k,d]=>if eqD k (.str "made")=v_ then isNm d else(eqD k (.str "leaf")||eqD k (.str "rule"))&&isT d
 |_=>V7
noncomputable def okS:D->Bool
 | .tup [k,_]=>okHd k&&decide (dp k<=60)
 |_=>v_
inductive sp_pair (vs:List V) (H:Hp) (Q:VK) (E_:XK):Prop
 |mk (v:_) (d:_) (_:vs= [v]) (_:Is H d v) (_:Q (.bl (isP d)) H)
inductive sp_source (vs:List V) (H:Hp) (Q:VK) (E_:XK):Prop
 |mk (v:_) (d:_) (_:vs= [v]) (_:Is H d v) (_:okS d=v_) (_:∀H',Same H H'->Q (.bl (isSrc d)) H')
inductive sp_cell (K:PySem.W.Frag) (vs:List V) (H:Hp) (Q:VK) (E_:XK):Prop
 |mk (q:Addr) (ns:List Int) (k:Int) (_:vs= [.ref q,.int k]) (_:0<=k) (_:SqL K H q (ns.map V.int)) (_:∀i:Int,Q (.int i) H)
theorem iteB {b:Bool}{A B:Prop}(O:b=v_)(h:A):if b=v_ then A else B:=by rw [A5 O];exact h
theorem iteN {b:Bool}{A B:Prop}(O:b=V7)(h:B):if b=v_ then A else B:=by rw [A4 (by rw [O];exact u9)];exact h
theorem ok_pair (T:Tx K mg a):#[K,1,a.f_is_pair,a.d_is_pair,["value"],sp_pair]:=by
 exists 9,T.g_is_pair,sc_is_pair
 erw[h,v,d,rfl,U,k];exists _,%[|#[qt,#[pe_and,7,#[qx,#[qU,2,rfl],T.qS,uX,#v[pv 0,#[Q3,.ty "tuple",T.QN,vx]]],#[pe_one,#[YA,Qs,#[qx,Jv,T.yt,uG,#v[pv 0]],ql,qz _]]]]]
 exists 7
 exists 0,v,"tuple",tyD d,XH d,1,U.ty,JK d,0;cases ht:XH d with
 |false=>
  refine iteF ?_;have e:isP d=false:=by cases d<;>first|rfl|simp [XH] at ht
  rwa [e] at k
 |true=>
  obtain⟨xs,rfl⟩:∃xs,d= .tup xs:=by cases d<;>simp [XH] at ht;exact⟨0⟩
  erw[U,p,us,rfl,hp,O];have lu:=O.length;refine iteT [0:.inr ⟨p,us,1,.inr (SqT.of hp),λ_=>[1:?_]⟩];have e:decide (V.int (us.length:Int)=V.int 2)=isP (.tup xs):=by
   simp only [isP,uZ];constructor
   ·intro h;have:=V.int.inj h;omega
   ·intro h;rw [lu,h]
    rfl
  rwa [<-e] at k
theorem ok_source (T:Tx K mg a):#[K,3,a.ZV,a.wO,["value"],sp_source]:=by
 have O:=#[ok_pair,T];have QX:=#[zf,T];have yz:=#[jf,T];exists 9,T.g_is_source,sc_is_source
 erw[h,v,d,rfl,hv,hok,k];exists _,%[#[qI,#[Qy,#[Qj,#[qw,O,T.g_is_pair,#v[pv 0]]]],%[|#[qt,Ja]],qv],#[qI,#[qq,#[op_eqM,1,hr.units],#[qH,qF,pv 0,ql],qm],%[|#[qt,#[qw,QX,T.g_is_name,#v[#[qH,qF,pv 0,ql]]]]],qv]|#[qt,#[pe_and,7,#[YA,#[op_inM,1,hr.units],#[qH,qF,pv 0,ql],#[qE,#v[qm,qm]],#[w]],#[pe_one,#[qw,yz,T.g_is_tree,#v[#[qH,qF,pv 0,ql]]]]]]]
 exists 7
 exists 0,v,0,hv,0;cases hP:isP d with
 |false=>
  refine iteT ?_;have e:isSrc d=false:=by
   cases d with
   |tup xs=>
    match xs,hP with
    | [],_=>rfl
    | [_],_=>rfl
    | [_,_],h=>simp [isP] at h
    |_::_::_::_,_=>rfl
   |_=>rfl
  have:=k H (Same.refl _);rwa [e] at this
 |true=>
  refine iteF ?_;obtain⟨z,e,rfl⟩:∃z e,d= .tup [z,e]:=by
   cases d with
   |tup xs=>
    match xs,hP with
    | [],h=>simp [isP] at h
    | [_],h=>simp [isP] at h
    | [x,y],_=>exact[x:y:1]
    |_::_::_::_,h=>simp [isP] at h
   |_=>simp [isP] at hP
  erw[id hv,p,us,rfl,hp,x1,r1,rfl,h1,x2,r2,rfl,h2,h3];cases(show r2= [] from h3)
  have U:okHd z=v_/\dp z<=60:=by simpa [okS] using hok
  exists 0,p,_,_,0,1,SqT.of hp,1,z,"made",h1,1,(),U.1,U.2,0
  cases c:eqD z (.str "made") with
  |true=>
   refine iteT ⟨0,p,_,_,0,1,SqT.of hp,1,x2,e,1,h2,λH' s'=> ?_⟩;have:=k H' s';simp only [isSrc,c,V6] at this;exact this
  |false=>
   refine iteF ⟨0,p,_,_,0,1,SqT.of hp,1,(sml rfl),λq hq=> ?_⟩;have s1:Same H (upd H q (.tup [.str "leaf",.str "rule"])):=qg hq _;exists z,q,["leaf","rule"],h1.mono s1.tk,1,.inr (SqT.of qh),(),U.1,U.2,0
   have e2:(["leaf","rule"]:oj Str).any (λy=>eqD z (.str y))=(eqD z (.str "leaf")||eqD z (.str "rule")):=by simp
   rw [e2];cases c2:(eqD z (.str "leaf")||eqD z (.str "rule")) with
   |true=>
    refine iteT ⟨0,p,_,_,0,1,SqT.of (s1 _ _ hp),1,x2,e,1,h2.mono s1.tk,λH' s'=> ?_⟩;have:=k H' (s1.trans s');simp only [isSrc,c,c2,Hq,UO,if_false] at this;exact this
   |false=>
    refine iteF ?_;have:=k _ s1;simp only [isSrc,c,c2,tT,UO,if_false] at this;exact this
theorem ok_cell (T:Tx K mg a):#[K,1,a.Xq,a.Xn,["script","k"],(sp_cell K)]:=by
 exists 9,T.g_law_cell_at,Wr
 erw[h,q,ns,j,rfl,h0,O,k];exists _,%[#[qI,#[qq,op_lt,pv 1,#[qx,qM,T.yt,uG,#v[pv 0]]],%[|#[qt,#[qH,yK,pv 0,pv 1]]],qv]|#[qt,ql]]
 exists 7
 exists 0,0,q,0,.inl O,_,0,1,0;refine ite2 (λc=> ?_) (λc=> ?_)
 ·have c':j<((ns.map V.int).length:Int):=um c;erw[YR h0 c',v,U];erw[Ab.mp (JC U),i,_,rfl];exact⟨0,0,q,_,_,0,1,O,U,k _⟩
 ·exact k 0
theorem str_ext {y:Str}(h:z.cps.toList=y.cps.toList):z=y:=by
 cases z;cases y;simp at h;rw [h]
noncomputable def okN (z:Str):Bool:=(z.cps.toList.map λc=>inS ⟨#[c]⟩ NSG).all id
theorem kL (h:nm z=v_):1<=z.length/\z.length<=24:=by
 by_cases c:1<=(z.length:Int)/\(z.length:Int)<=24
 ·omega
 ·rw [nm_len c] at h;cases h
noncomputable def Nms (zs:oj Str):Prop:=(∀z∈zs,nm z=v_)/\zs.Nodup
noncomputable def Wp (d:D):Prop:=(∃k e,d= .tup [.str k,e])/\isSrc d=v_/\lw d=v_/\sz d<=306
noncomputable def prD (p:Str×D):D:= .tup [.str p.1,p.2]
noncomputable def PrOk (ps:oj (Str×D)):Prop:=Nms (ps.map (·.1))/\∀p∈ps,Wp p.2
theorem okN_all (h:okN z=v_):jY z=true:=by
 unfold jY;rw [Uj];intro c U;have:=List.all_eq_true.mp h _ (Ab.mpr [c:U:1]);rw [id,inS_one] at this;have O:∀c∈NSG.cps.toList,QD c=true:=by decide+kernel
 exact O c (um this)
theorem nm_okN (h:nm z=v_):okN z=true:=by
 have O:=kL h;cases h3:inS ⟨#[z.cps.getD 0 0]⟩ LET with
 |false=>rw [nm_first h3] at h;cases h
 |true=>
  rw [nm_rest () () h3] at h
  exact h
theorem src_made (h:nm z=v_):Wp (.tup [.str "made",.str z]):=by
 have O:=kL h;refine⟨[_:0],?_,?_,by simp only [sz,szL];show 1+(("made":Str).length+1+(z.length+1+0))<=306;have:("made":Str).length=4:=rfl;omega⟩
 ·show(if eqD (.str "made") (.str "made")=v_ then nm z else(eqD (.str "made") (.str "leaf")||eqD (.str "made") (.str "rule"))&&isT (.str z))=v_
  rw [A5 ()]
  exact h
 ·have:jY "made"=true:=by decide+kernel
  simp only [lw,lwL,this,okN_all (nm_okN h)]
  rfl
theorem src_leaf {k:Str}{d:D}(O:k="leaf"∨k="rule")(h:isT d=v_)(U:lw d=v_)(hz:sz d<=300):Wp (.tup [.str k,d]):=by
 have aa:k.length=4:=by rcases O with rfl|rfl<;>rfl
 refine⟨[_:0],?_,?_,by simp only [sz,szL];omega⟩
 ·show(if eqD (.str k) (.str "made")=v_ then isNm d else(eqD (.str k) (.str "leaf")||eqD (.str k) (.str "rule"))&&isT d)=v_
  have e1:eqD (.str k) (.str "made")=false:=by rcases O with rfl|rfl<;>decide+kernel
  have e2:(eqD (.str k) (.str "leaf")||eqD (.str k) (.str "rule"))=true:=by rcases O with rfl|rfl<;>decide+kernel
  rw [e1,e2,h]
  rfl
 ·have:jY k=true:=by
   rcases O with rfl|rfl<;>decide+kernel
  simp only [lw,lwL,this,U]
  rfl
theorem src_okS {d:D}(h:Wp d):okS d=true:=by
 erw[h,[k,e,rfl],_];simp [okS,okHd,trD,dp]
theorem yU (h:z.length<=16000000):Is H (.str z) (.str z):=[1:fits h]
theorem ge_trans:∀a b c:oj Nat,Vy b a=V7->Vy c b=V7->Vy c a=V7
 | [],_,[],_,_=>rfl
 | [],_,_::_,_,_=>rfl
 |x::a,[],_,h,_=>by simp [Vy] at h
 |x::a,y::b,[],_,h=>by simp [Vy] at h
 |x::a,y::b,z::c,h1,h2=>by
  simp only [Vy,tK,rY,decide_eq_false_iff_not,UH,ne_eq] at*;exists ()
  by_cases e:z=x
  ·refine .inr (ge_trans a b c ?_ ?_)
   ·rcases h1.2 with h|h
    ·omega
    ·exact h
   ·rcases h2.2 with h|h
    ·omega
    ·exact h
  ·exact .inl e
theorem ge_anti:∀a b:oj Nat,Vy a b=V7->Vy b a=V7->a=b
 | [],[],_,_=>rfl
 | [],_::_,h,_=>by simp [Vy] at h
 |_::_,[],_,h=>by simp [Vy] at h
 |x::a,y::b,h1,h2=>by
  simp only [Vy,tK,rY,decide_eq_false_iff_not,UH,ne_eq] at*;have e:x=y:=by omega
  subst e;rw [ge_anti a b (by rcases h1.2 with h|h;exact absurd rfl h;exact h) (by rcases h2.2 with h|h;exact absurd rfl h;exact h)]
theorem rising_pw:∀(l:oj Str) (p:Str),risingS p l=v_->(p::l).Pairwise (λa b=>Vy b.cps.toList a.cps.toList=V7)
 | [],p,_=>List.pairwise_singleton ..
 |x::r,p,h=>by
  have h':(!Vy x.cps.toList p.cps.toList&&risingS x r)=true:=h;rw [ur,Rk] at h';have U:=rising_pw r x h'.2;refine List.pairwise_cons.mpr [λb O=> ?_:U];rcases A8.mp O with rfl|O
  ·exact h'.1
  ·exact ge_trans _ _ _ h'.1 (List.rel_of_pairwise_cons U O)
variable {l:oj Str}
theorem sorted_pw (h:Go l=v_):l.Pairwise (λa b=>Vy b.cps.toList a.cps.toList=V7):=by
 cases l with
 |nil=>exact t_
 |cons x r=>exact rising_pw r x h
theorem sorted_one {m:oj Str}(h1:Go l=v_)(h2:Go m=v_)(h:l.Perm m):l=m:=
 pG (λa b _ _ x y=>str_ext (ge_anti _ _ y x)) (sorted_pw h1) (sorted_pw h2) h
noncomputable def qG (ps:oj (Str×D))(z:Str):D:=((ps.find? λp=>decide (p.1=z)).map (·.2)).getD .non
noncomputable def X4 (vs:oj (Str×V))(z:Str):V:=(valV (inrK vs) (V9 z)).getD .non
theorem wc (p:Str×V)(r:oj (Str×V)):inrK (p::r)=(V9 p.1,p.2)::inrK r:=rfl
theorem Wx {H:Hp}{z:Str}:∀{ps:oj (Str×D)}{vs:oj (Str×V)},vs.map (·.1)=ps.map (·.1)->IsL H (ps.map (·.2)) (vs.map (·.2))->z∈ps.map (·.1)->valV (inrK vs) (V9 z)=u_ (X4 vs z)/\Is H (qG ps z) (X4 vs z)
 | [],_,_,_,h=>nomatch h
 |p::ps,[],e,_,_=>by simp at e
 |p::ps,v::vs,e,hi,hz=>by
  simp only [uq,Ue] at e;erw[hi,u,r,e2,h1,h2];simp only [uq,Ue] at e2;erw[e2,rfl,rfl];by_cases c:p.1=z
  ·have O:v.1=z:=e.1.trans c;have U:valV (inrK (v::vs)) (V9 z)=u_ v.2:=by
    rw [wc];exact QP (by rw [O])
   have e4:qG (p::ps) z=p.2:=by simp [qG,vb,c]
   unfold X4;rw [U,e4];exact[1:h1]
  ·have O:¬v.1=z:=λq=>c (e.1.symm.trans q);have U:valV (inrK (v::vs)) (V9 z)=valV (inrK vs) (V9 z):=by
    rw [wc];exact QE (λq=>O (Uu q))
   have e4:qG (p::ps) z=qG ps z:=by simp [qG,vb,c]
   have aa:z∈ps.map (·.1):=by
    rcases A8.mp hz with h|h
    ·exact absurd h.symm c
    ·exact h
   have ih:=Wx e.2 h2 aa;unfold X4 at*;rw [U,e4];exact ih
theorem kP {z:Str}:∀{vs:oj (Str×V)},z∉vs.map (·.1)->valV (inrK vs) (V9 z)=U_
 | [],_=>rfl
 |v::vs,h=>by
  rw [wc,QE (λq=>h (by rw [<-Uu q];exact uf ..))]
  exact kP λm=>h (ue _ m)
theorem re_map:∀{ps:oj (Str×D)},(ps.map (·.1)).Nodup->(ps.map (·.1)).map (λz=>(z,qG ps z))=ps
 | [],_=>rfl
 |p::ps,h=>by
  have h':=List.nodup_cons.mp h;have O:qG (p::ps) p.1=p.2:=by simp [qG,vb]
  rw [uq,uq,O]
  congr 1
  refine Hn (Uh λz U=> ?_) (re_map h'.2);have:¬p.1=z:=λq=>h'.1 (by show p.1∈_;rwa [q])
  simp [qG,vb,this]
noncomputable def tabOf (ps:oj (Str×D))(ms:oj Str):oj (Str×D):=ms.map λz=>(z,qG ps z)
theorem ku (ps:oj (Str×D))(O:oj Str):(tabOf ps O).map (·.1)=O:=by
 unfold tabOf;rw [uK];exact(Uh λ_ _=>rfl).trans (V4 O)
variable {ps:oj (Str×D)}
theorem tab_perm {O:oj Str}(hn:(ps.map (·.1)).Nodup)(h:O.Perm (ps.map (·.1))):(tabOf ps O).Perm ps:=by
 have:=h.map λz=>(z,qG ps z);rwa [re_map hn] at this
noncomputable def jg (C:o3)(H:Hp)(x:o3)(qs:oj (Str×D)):Prop:=∃(dx d:o3) (o:Obj) (vs:oj (Str×V)),H x=u_ (.ins C dx [("by_name",.ref d)])/\H d=u_ (.frz o (.dK (inrK vs)))/\vs.map (·.1)=qs.map (·.1)/\L2.IsL H (qs.map (·.2)) (vs.map (·.2))
variable {qs:oj (Str×D)}
theorem jg.same {x:o3}(h:jg C H x qs)(s:Same H H'):jg C H' x qs:=by
 erw[h,dx,d,o,vs,h1,h2,h3,h4];exact⟨dx,d,o,vs,s _ _ h1,s _ _ h2,h3,h4.mono s.tk⟩
noncomputable def Q0 (qs:oj (Str×D)):Prop:=PrOk qs/\Go (qs.map (·.1))=v_/\qs.length<=60
inductive sp_init (C:Addr) (vs:List V) (H:Hp) (Q:VK) (E_:XK):Prop
 |mk (x dx t:Addr) (ps:List (Str×D)) (us:List V) (_:vs= [.ref x,.ref t]) (_:H x=u_ (.ins C dx [])) (_:H t=u_ (.tup us)) (_:L2.IsL H (ps.map prD) us) (_:PrOk ps) (_:ps.length<=60) (_:∀(qs:List (Str×D)) (H':Hp),(∀b o,H b=u_ o->b≠x->H' b=u_ o)->jg C H' x qs->Q0 qs->qs.Perm ps->Q .non H')
theorem Nms.perm {m:oj Str}(h:Nms m)(p:l.Perm m):Nms l:=[λz O=>h.1 z (p.mem_iff.mp O):(p.nodup_iff).mpr h.2]
theorem dat_of {d:D}(hn:(ps.map (·.1)).Nodup)(h:(z,d)∈ps):qG ps z=d:=by
 induction ps with
 |nil=>cases h
 |cons p r ih=>
  have O:=List.nodup_cons.mp hn;rcases A8.mp h with h|h
  ·subst h;simp [qG,vb]
  ·have:¬p.1=z:=λq=>O.1 (by show p.1∈_;rw [q];exact Ab.mpr [_:h:1])
   have U:=ih O.2 h
   simpa [qG,vb,this] using U
theorem dat_mem (hn:(ps.map (·.1)).Nodup)(h:z∈ps.map (·.1)):(z,qG ps z)∈ps:=by
 erw[Ab.mp h,p,O,rfl];rw [dat_of hn (show(p.1,p.2)∈ps from O)]
 exact O
theorem dat_perm (hn:(ps.map (·.1)).Nodup)(O:qs.Perm ps)(h:z∈ps.map (·.1)):qG qs z=qG ps z:=by
 have U:(qs.map (·.1)).Nodup:=((O.map _).nodup_iff).mpr hn;exact dat_of U (O.mem_iff.mpr (dat_mem hn h))
theorem pairs_at {H:Hp}:∀{ps:oj (Str×D)}{us:oj V},L2.IsL H (ps.map prD) us->∃(ts:oj o3) (vs:oj (Str×V)),us=ts.map V.ref/\ts.length=vs.length/\(∀(i:Nat) (t:o3) (p:Str×V),ts[i]? =u_ t->vs[i]? =u_ p->H t=u_ (.tup [.str p.1,p.2]))/\vs.map (·.1)=ps.map (·.1)/\L2.IsL H (ps.map (·.2)) (vs.map (·.2))
 | [],us,h=>⟨[],[],h,1,λi t p h=>by simp at h,1,1⟩
 |p::r,us,h=>by
  erw[h,v,q,rfl,O,h2];erw[O,t,ws,rfl,U,x1,r1,rfl,[rfl,hz],x2,r2,rfl,h4,h5];cases(show r2= [] from h5)
  erw[pairs_at h2,ts,vs,rfl,e1,e2,e3,e4];refine⟨t::ts,(p.1,x2)::vs,1,by simp [e1],λi t' p' h6 h7=> ?_,by simp [e3],⟨_,0,h4,e4⟩⟩
  cases i with
  |zero=>
   cases h6;cases h7;exact U
  |succ i=>exact e2 i t' p' (by simpa using h6) (by simpa using h7)
theorem inrK_snoc (vs:oj (Str×V))(z:Str)(v:V):inrK (vs++ [(z,v)])=inrK vs++ [(V9 z,v)]:=by
 unfold inrK;rw [Vc]
 rfl
theorem mapG {α β:Type}(f:α->β){l:oj α}{i:Nat}(h:i<l.length):(l.map f)[i]? =u_ (f l[i]):=by
 rw [uE,ug h]
 rfl
theorem take1 {α:Type}{l:oj α}{i:Nat}(h:i<l.length):l.take (i+1)=l.take i++ [l[i]]:=by
 rw [uY,ug h]
 rfl
theorem ok_init (T:Tx K mg a):#[K,4,a.Y7,a.xn,["self","sources"],(sp_init a.qO)]:=by
 have QX:=#[zf,T];have U:=#[ok_source,T];refine T.g_Project_init.F.ok yA () (λ_ _ _ _ H vs Q E hr h=> ?_)
 erw[h,x,dx,t,ps,us,rfl,hx,ht,aq,hok,aM,k];have hs:=uB;exists _,%[#[qC,2,(2),4,yA.nd,rfl,V_ rfl,jL,_,_],#[YV,#[pi_tup,4,pv 1],#[pg_tup,6,rfl,yD #[qT,(3),yA.nd] (yD #[qT,(4),yA.nd] ZP),_,_],%[#[qI,#[Qy,#[Qj,#[qw,QX,T.g_is_name,#v[pv 3]]]],%[|js],qv],#[qI,#[Qy,#[Qj,#[qw,U,T.g_is_source,#v[pv 4]]]],%[|js],qv],#[qI,#[Jz,#[w8,pv 3,pv 2]],%[|js],qv],#[qI,#[qq,Qs,#[qx,call_lenD,T.yt,uG,#v[pv 2]],#[Kg,T.m_MOST_NAMES]],%[|js],qv]|#[YH,pv 2,pv 3,pv 4]]]|#[Qc,#[qZ,#[WO,1,rfl],T.z_dict,Ti,#v[#[zI,["name","by_name"],[2],lcsN (qj yZ) ["self","sources","by_name","name","source"],#[X7,#[qx,#[call_sortedD,1,rfl],T.z_sorted,RO,#v[pv 2]]],(λ_ _ _ _ _ _=>#[qT,(0),(show Vp (["name","by_name"]:oj Str) by decide+kernel)]),(λ_ _ _ _ _ _=>#[qE,#v[pv 0,#[Qr,6,Qn hr,pv 1,pv 0,(λ_ _=>rfl)]]])]]]]]
 exists 7
 intro d hd;have s1:Same H (upd H d (.dK [])):=qg hd _;have aN:d≠x:=λe=>by rw [e,hx] at hd;cases hd
 have au:=aq.length;rw [ua] at au;refine⟨0,t,1,[_:SqT.of (s1 _ _ ht)],kS (K:=K) (a:=t) (xs:=us) (λi σ H'=>∃(vs:oj (Str×V)) (nv sv:om V),σ= [u_ (.ref x),u_ (.ref t),u_ (.ref d),nv,sv]/\Same H H'/\H' d=u_ (.dK (inrK vs))/\vs.map (·.1)=(ps.take i).map (·.1)/\L2.IsL H' ((ps.take i).map (·.2)) (vs.map (·.2)))
  ⟨[],U_,U_,1,s1,qh,1,1⟩ (λi σ H' _ ⟨_,_,_,_,sm,_⟩=>SqT.of (sm _ _ ht)) ?_ ?_⟩
 ·rintro i y σ H' hi ⟨vs,nv,sv,rfl,sm,ad,hk,hv⟩;have aO:i<us.length:=(Ae.mp hi).1;have aa:i<ps.length:=by omega
  erw[aq.get (mapG prD aa),v,e1,e2];rw [hi] at e1;cases e1;have aw:=hok.2 _ (v9 aa);have aC:nm ps[i].1=true:=hok.1.1 _ (Ab.mpr [_:v9 aa:1]);erw[aw,[sk,sd,aP],aD,aQ];erw[e2,p,ws,rfl,hp,w1,r1,rfl,[rfl,hz],w2,r2,rfl,h2,h3];cases(show r2= [] from h3)
  have aE:=sm _ _ hp;exists p,0,SqT.of aE,1,_,0,_,0,1;refine⟨0,_,.str ps[i].1,1,[1:hz],λH3 s3=>⟨0,iteN (by simp [isNm,aC]) ?_⟩⟩
  have ax:Is H3 ps[i].2 w2:=h2.mono (sm.trans s3).tk;refine⟨0,w2,ps[i].2,1,ax,src_okS (hok.2 _ (v9 aa)),λH4 s4=>⟨0,iteN (by rw [aD];rfl) ?_⟩⟩
  have ag:=s3.trans s4;have ae:=ag _ _ ad;have nk:ps[i].1∉vs.map (·.1):=by
   rw [hk];have ac:=hok.1.2;have e:ps.map (·.1)=(ps.take i).map (·.1)++ps[i].1::(ps.drop (i+1)).map (·.1):=by
    rw [<-uq (f:=λx:Str×D=>x.1),<-vk aa,<-Vc,Re]
   rw [e,rK] at ac;exact λm=>ac.2.2 _ m _ (uf ..) rfl
  have ev:=kP nk;have aF:vs.length=i:=by
   have:=congrArg Vz hk;rw [ua,ua,vR] at this;omega
  refine⟨0,0,d,0,DGet.k (k:=V9 ps[i].1) ae,0,iteN (by rw [ev];rfl) ?_⟩
  refine⟨0,d,0,ae,1,0,iteN (uc λq=> ?_) ?_⟩
  ·have:=V.int.inj q;unfold inrK at this;rw [ua] at this;omega
  ·have aG:(inrK vs).length<sizeLine:=by
    unfold inrK;rw [ua];omega
   exists 0,0,0,d,0,DPut.k (k:=V9 ps[i].1) ae aG;have tk:Tk H4 (upd H4 d (.dK (putK (inrK vs) (V9 ps[i].1) w2))):=Tk.updD ae;refine⟨vs++ [(ps[i].1,w2)],_,0,?_,?_,?_,?_⟩
   ·intro b o e;rw [qi (qk e hd)];exact(sm.trans ag) _ _ e
   ·rw [qh,Zy _ ev,inrK_snoc]
   ·rw [take1 aa,Vc,Vc,hk]
    rfl
   ·rw [take1 aa,Vc,Vc];exact(((hv.mono ag.tk).mono tk)).append (L2.IsL.one ((ax.mono s4.tk).mono tk))
 ·rintro σ H1 ⟨vs,nv,sv,rfl,sm,ad,hk,hv⟩;rw [au,vv] at hk hv;have aF:vs.length=ps.length:=by
   have:=congrArg Vz hk
   rwa [ua,ua] at this
  have ah:(inrK vs).map (·.1)=(ps.map (·.1)).map Sum.inr:=by rw [wg,hk]
  refine⟨0,d,inrK vs,ps.map (·.1),1,ad,ah,by rw [ua];omega,λms q O ak hq=>⟨q,1,[_:SqL.of qh],λA0 al=> ?_⟩⟩
  have s2:Same H1 (upd H1 q (.lst (ms.map V.str))):=qg hq _;have aR:ms.length=ps.length:=by
   have:=O.length_eq
   rwa [ua] at this
  refine lc_strs (K:=K) (tl:= [u_ (.ref d)]) (λi ys H'=>∃ts:oj o3,ys=ts.map V.ref/\ts.length=i/\Same H1 H'/\H' A0=u_ (.lst ys)/\∀(j:Nat) (t:o3) (z:Str),ts[j]? =u_ t->ms[j]? =u_ z->H' t=u_ (.tup [.str z,X4 vs z])) qh () al
   ⟨[],1,1,s2.trans (qg al _),qh,λj t z h=>by simp at h⟩ ?_ ?_
  ·rintro i z ys H' hz ⟨ts,rfl,af,s3,hA,am⟩ _ _ _ R r;have aH:z∈ps.map (·.1):=O.mem_iff.mp (uQ hz);have lk:=Wx hk hv aH;refine⟨0,0,0,d,X4 vs z,1,?_,(sml rfl),λt2 ao=> ?_⟩
   ·have:=DGet.k (k:=V9 z) (s3 _ _ ad);rwa [lk.1] at this
   ·have s4:=qg ao (.tup [V.str z,X4 vs z]);have aI:t2≠A0:=λe=>by rw [e,hA] at ao;cases ao
    refine r _ _ (s4 _ _ hA) (s4 _ _ (by assumption)) ⟨ts++ [t2],by rw [Vc];rfl,by rw [uu,af];rfl,?_,qh,?_⟩
    ·intro b o e;have nb:b≠A0:=qk (s2 _ _ e) al;rw [qi nb];exact s4 _ _ (s3 _ _ e)
    ·intro j t z' h1 h2;rcases UZ j i with hj|hj
     ·rw [UD ()] at h1
      have:=am j t z' h1 h2;have nb:t≠A0:=λe=>by rw [e,hA] at this;cases this
      rw [qi nb];exact s4 _ _ this
     ·have aJ:j=i:=by
       have:=(Ae.mp h1).1;rw [uu] at this;have:j<ts.length+1:=this;omega
      subst aJ;rw [hz] at h2;cases h2;rw [UC (),af,Nat.sub_self] at h1
      cases h1;rw [qi aI];exact qh
  ·rintro ys H2 ⟨ts,rfl,af,s3,hA,am⟩ _;have ac:=hok.1.2;have aK:ms.Nodup:=O.nodup_iff.mpr ac;have ay:(ms.map λz=>(z,X4 vs z)).map (·.1)=ms:=by
    rw [uK];exact(Uh λ_ _=>rfl).trans (V4 ms)
   refine⟨A0,ms.map λz=>(z,X4 vs z),1,⟨ts,hA,by rwa [ua],λj t p h1 h2=> ?_⟩,by rwa [ay],by rw [ua];omega,λq2 o ap=> ?_⟩
   ·rw [uE] at h2;cases h3:ms[j]? with
    |none=>rw [h3] at h2;cases h2
    |some z=>
     rw [h3] at h2;cases h2;exact am j t z h1 h3
   ·have s4:=qg ap (.frz o (.dK (inrK (ms.map λz=>(z,X4 vs z)))));have aA:H1 x=u_ (.ins a.qO dx []):=sm _ _ hx;have aB:=s4 _ _ (s3 _ _ aA);have nq:q2≠x:=λe=>by rw [e,s3 _ _ aA] at ap;cases ap
    refine⟨0,x,a.qO,dx,[],1,aB,T.YG,T.Q4,(by show 0<1000;decide),?_⟩
    refine k (tabOf ps ms) _ ?_ ⟨dx,q2,o,ms.map λz=>(z,X4 vs z),qh,by rw [qi nq];exact qh,by rw [ay,ku],?_⟩ ⟨[?_:?_],by rwa [ku],by unfold tabOf;rw [ua];omega⟩ (tab_perm ac O)
    ·intro b ob e nb;rw [qi nb];exact s4 _ _ (s3 _ _ (sm _ _ e))
    ·have tk:Tk H1 (upd (upd H2 q2 (.frz o (.dK (inrK (ms.map λz=>(z,X4 vs z)))))) x (.ins a.qO dx (putF "by_name" (.ref q2) []))):=(s3.trans s4).tk.trans (Tk.updI aB);have aL:∀l:oj Str,(∀z∈l,z∈ps.map (·.1))->L2.IsL H1 ((tabOf ps l).map (·.2)) ((l.map λz=>(z,X4 vs z)).map (·.2)):=by
      intro l
      induction l with
      |nil=>exact λ_=>rfl
      |cons z r ih=>exact λh=>⟨_,0,(Wx hk hv (h z (uf ..))).2,ih λy hy=>h y (ue _ hy)⟩
     exact(aL ms λz hz=>O.mem_iff.mp hz).mono tk
    ·rw [ku];exact hok.1.perm O
    ·intro p hp;exact hok.2 p ((tab_perm ac O).mem_iff.mp hp)
theorem fld_by:Vx ("by_name":Str) [(("by_name":Str),v)]=u_ v:=by simp [Vx]
theorem Zg:Vx ("source_of":Str) [(("by_name":Str),v)]=none:=by
 have:(("source_of":Str)=="by_name")=false:=by decide+kernel
 simp [Vx,this]
inductive wW (C:Addr) (vs:List V) (H:Hp) (Q:VK) (E_:XK):Prop
 |mk (x:Addr) (z:Str) (qs:List (Str×D)) (_:vs= [.ref x,.str z]) (_:jg C H x qs) (_:∀v:V,(z∈qs.map (·.1)->Is H (qG qs z) v)->(z∉qs.map (·.1)->v= .non)->Q v H)
theorem Wi (T:Tx K mg a):#[K,1,a.Yz,a.Yu,["self","name"],(wW a.qO)]:=by
 refine T.g_Project_source_of.F.ok xh () (λ_ _ _ _ H vs Q E U h=> ?_)
 erw[h,x,z,qs,rfl,[dx,d,o,vs,hx,hd,O,hv],k];exists _,%[|#[qt,#[pe_dget1,7,Qn U,#[qN,5,pv 0,rfl],pv 1,⟨1,1,1,1⟩]]]
 exists 7
 exists 0,x,a.qO,dx,_,0,hx,T.YG,T.Q4,fld_by,d,1,.inl [_:.inr [o:hd]],0,_,.inl ⟨_,V9 z,.inr [o:hd],1,1⟩;refine k _ (λc=> ?_) λc=> ?_
 ·exact(Wx O hv c).2
 ·rw [kP (by rwa [O])]
  rfl
noncomputable def rowT (zs:oj Str):D:= .tup (zs.map D.str)
noncomputable def rowG (acc:oj Str):oj Str->oj Str
 | []=>acc
 |z::r=>if isT (rowT (acc++ [z]))=v_ then rowG (acc++ [z]) r else acc
inductive WK (K:PySem.W.Frag) (vs:List V) (H:Hp) (Q:VK) (E_:XK):Prop
 |mk (L:Addr) (zs:List Str) (_:vs= [.ref L]) (_:H L=u_ (.lst (zs.map V.str))) (_:(∀z∈zs,z.length<=100)) (_:zs.length<=100) (_:∀(v:V) (H':Hp),Same H H'->Is H' (rowT (rowG [] zs)) v->Q v H')
variable {xs:oj V}{Q:VK}
theorem cat1 {K:o0}{a:o3}{x:V}(ha:H a=u_ (.tup xs))(O:xs.length+1<=Vb)(k:∀p H',Same H H'->H' p=u_ (.tup (xs++ [x]))->Q (.ref p) H'):
  [x].length<=Vb/\∀q,H q=U_->rCatG K (.ref a) (.ref q) (upd H q (.tup [x])) Q:=by
 refine[sml rfl:λq U=> ?_];have s1:Same H (upd H q (.tup [x])):=qg U _;refine⟨a,q,xs,[x],1,1,SqT.of (s1 _ _ ha),SqT.of qh,O,λe=> ?_,(λ_ e=>by cases e),λ_ _ p hp=> ?_⟩
 ·refine k q _ s1 ?_;rw [e];exact qh
 ·exact k p _ (s1.trans (qg hp _)) qh
variable {zs:oj Str}{p:o3}
theorem is_row (h:H p=u_ (.tup (zs.map V.str)))(U:∀z∈zs,z.length<=100):Is H (rowT zs) (.ref p):=by
 have O:∀(zs:oj Str),(∀z∈zs,z.length<=100)->IsL H (zs.map D.str) (zs.map V.str):=by
  intro zs
  induction zs with
  |nil=>exact λ_=>rfl
  |cons z r ih=>
   intro h;exact⟨_,0,⟨1,fits (by have:=h z (uf ..);omega)⟩,ih λy hy=>h y (ue _ hy)⟩
 exact⟨p,0,h,O zs U⟩
theorem rowG_mem:∀(zs O:oj Str) (z:Str),z∈rowG O zs->z∈O∨z∈zs
 | [],O,z,h=> .inl h
 |y::r,O,z,h=>by
  unfold rowG at h;split at h
  ·rcases rowG_mem r _ z h with h|h
   ·rcases Aa.mp h with h|h
    ·exact .inl h
    ·exact .inr (by rw [A9.mp h];exact uf ..)
   ·exact .inr (ue _ h)
  ·exact .inl h
inductive sp_looked (C:Addr) (vs:List V) (H:Hp) (Q:VK) (E_:XK):Prop
 |mk (x t:Addr) (kind text:Str) (qs:List (Str×D)) (_:vs= [.ref x,.ref t]) (_:jg C H x qs) (_:Q0 qs) (_:H t=u_ (.tup [.str kind,.str text])) (_:text.length<=1000) (_:((kind="has"/\Q (.str (if text∈qs.map (·.1) then "yes" else "no")) H)∨(kind="names"/\∀(v:V) (H':Hp),Same H H'->Is H' (rowT (rowG [] ((qs.map (·.1)).filter λz=>Vo z text))) v->Q v H')))
theorem has_key {vs:oj (Str×V)}(O:vs.map (·.1)=qs.map (·.1))(hi:L2.IsL H (qs.map (·.2)) (vs.map (·.2)))(z:Str):(valV (inrK vs) (V9 z)).isSome=decide (z∈qs.map (·.1)):=by
 by_cases c:z∈qs.map (·.1)
 ·rw [(Wx O hi c).1,ub c]
  rfl
 ·rw [kP (by rw [O];exact c),uc c]
  rfl
theorem ok_longest (T:Tx K mg a):#[K,3,a.XY,a.XM,["names"],(WK K)]:=by
 have yz:=#[jf,T];exists 9,T.g_longest_row,y7
 erw[h,L,zs,rfl,hL,hz,hn,k];have hs:=uB;exists _,%[#[qC,(1),y7.nd,#[qE,qd]],#[YV,#[X7,pv 0],#[qT,(2),y7.nd],%[#[qI,#[Qy,#[Qj,#[qw,yz,T.g_is_tree,#v[#[qY,Xl,pv 1,#[qE,#v[pv 2]]]]]]],%[|ps_break],qv]|#[qC,(1),y7.nd,#[qY,Xl,pv 1,#[qE,#v[pv 2]]]]]]|#[qt,pv 1]]
 exists 7
 refine[(sml rfl):λq hq=> ?_];have s1:Same H (upd H q (.tup [])):=qg hq _;refine⟨0,L,1,[_:SqL.of (s1 _ _ hL)],XS (K:=K) (a:=L) (xs:=zs.map V.str) (λi σ H'=>∃(row:oj Str) (p:o3) (kv:om V),σ= [u_ (.ref L),u_ (.ref p),kv]/\H' p=u_ (.tup (row.map V.str))/\Same H H'/\rowG row (zs.drop i)=rowG [] zs/\row.length<=i/\∀z∈row,z∈zs)
  ⟨[],q,U_,1,qh,s1,1,uh _,λz h=>nomatch h⟩ (λi σ H' _ ⟨_,_,_,_,_,s2,_⟩=>SqL.of (s2 _ _ hL)) ?_ ?_⟩
 ·rintro i x σ H' hi ⟨row,p,kv,rfl,hp,s2,O,hl,hm⟩;have U:i<zs.length:=by
   have:=(Ae.mp hi).1
   simpa using this
  obtain rfl:x=V.str zs[i]:=by
   rw [uE,ug U] at hi;exact(uF hi).symm
  have ed:zs.drop i=zs[i]::zs.drop (i+1):=vk U;rw [ed] at O;rw [show rowG row (zs[i]::zs.drop (i+1))=if isT (rowT (row++ [zs[i]]))=v_ then rowG (row++ [zs[i]]) (zs.drop (i+1)) else row from rfl] at O
  have aa:∀z∈row++ [zs[i]],z∈zs:=λz h=>by
   rcases Aa.mp h with h|h
   ·exact hm z h
   ·rw [A9.mp h];exact v9 U
  have hsz:(row.map V.str).length+1<=sizeLine:=by rw [ua];omega
  have em:row.map V.str++ [V.str zs[i]]=(row++ [zs[i]]).map V.str:=by simp
  refine⟨0,0,cat1 hp hsz λp2 H3 s3 h3=>⟨_,rowT (row++ [zs[i]]),1,is_row (by rw [h3,em]) λz h=>hz z (aa z h),λH4 s4=>[0:?_]⟩⟩
  cases hT:isT (rowT (row++ [zs[i]])) with
  |false=>
   rw [A4 (by rw [hT];exact u9)] at O
   refine iteT [0:k _ H4 ((s2.trans s3).trans s4) ?_];rw [<-O];exact is_row (s4 _ _ (s3 _ _ hp)) λz h=>hz z (hm z h)
  |true=>
   rw [A5 hT] at O;refine iteF [0:0:cat1 (s4 _ _ (s3 _ _ hp)) hsz λp5 H5 s5 h5=> ?_];exact⟨row++ [zs[i]],p5,0,by rw [h5,em],((s2.trans s3).trans s4).trans s5,O,by rw [uu];show row.length+1<=i+1;omega,aa⟩
 ·rintro σ H' ⟨row,p,kv,rfl,hp,s2,O,hl,hm⟩;refine[0:k _ H' s2 ?_];rw [ua,List.drop_length] at O;rw [<-O];exact is_row hp λz h=>hz z (hm z h)
theorem ok_looked (T:Tx K mg a):#[K,4,a.YD,a.Yt,["self","ask"],(sp_looked a.qO)]:=by
 have KB:=#[ok_longest,T];refine T.g_Project_looked_up.F.ok xi () (λ_ _ _ _ H vs Q E hr h=> ?_)
 erw[h,x,t,kind,text,qs,rfl,[dx,d,o,vs,hx,hd,hk,hv],U,ht,ad,h];have hs:=uB;exists _,%[#[qI,#[qq,Qs,#[qH,qF,pv 1,ql],qm],%[|#[qt,#[ye,#[Jz,#[w8,#[qH,qF,pv 1,ql],#[qN,5,pv 0,rfl]]],qm,qm]]],qv]|#[qt,#[qw,KB,T.g_longest_row,#v[#[zI,2,["name","ask"],(1),[1],9,lcsN (qj QQ) ["self","ask"],rfl,#[Ke,4,#[qN,5,pv 0,rfl]],(λ_ _ _ _ _ _=>#[qT,(0),(show Vp (["name","ask"]:oj Str) by decide+kernel)]),(λ_ _ _ _ _ _=>#[kG,3,#[Qj,#[pe_bmK,1,K,11,rfl,uT,PySem.F.slot_str_startswith,PySem.F.type_str_startswith,mt_starts,pv 0,#v[#[qH,#[kW,1,K,rfl],pv 1,ql]],_,_,_,_,_]]]),(λ_ _ _ _ _ _=>(pv 0)),_]]]]]
 exists 7
 exists 0,t,_,_,0,1,SqT.of ht,1,1,0;rcases h with⟨rfl,k⟩|⟨rfl,k⟩
 ·refine iteB (ub rfl) ?_;exists 0,t,_,_,0,1,SqT.of ht,1,0,x,a.qO,dx,_,0,hx,T.YG,T.Q4,fld_by,d,0,.inl ⟨_,V9 text,.inr [o:hd],1,1⟩,0;rw [has_key hk hv];by_cases c:text∈qs.map (·.1)
  ·rw [A5 c] at k;exact iteB (ub c) k
  ·rw [A4 c] at k;exact iteN (uc c) k
 ·refine iteN () ?_
  have O:(inrK vs).map (·.1)=(qs.map (·.1)).map Sum.inr:=by rw [wg,hk]
  refine⟨0,x,a.qO,dx,_,0,hx,T.YG,T.Q4,fld_by,d,o,0,hd,λA0 aa=> ?_⟩;refine lc_dicF (tl:= [u_ (.ref t)]) (λz=>Vo z text) V.str hd O (by rw [ua];have:=U.2.2;omega) aa (λz H1 R hz s1 r=> ?_) (λz H1 R hz s1 r=>[0:r]) λH1 s1 h1=> ?_
  ·exact⟨0,1,0,t,_,_,0,1,SqT.of (s1 _ _ ht),1,z,text,1,1,0,r⟩
  ·refine⟨A0,0,h1,λz hz=> ?_,?_,λv H2 s2 ac=>k v H2 (s1.trans s2) ac⟩
   ·have:=kL (U.1.1.1 z (Ac.mp hz).1);omega
   ·have:=vq (λz=>Vo z text) (qs.map (·.1));rw [ua] at this;have:=U.2.2;omega
noncomputable def XC:D->Bool
 | .non=>v_
 |_=>V7
noncomputable def zc:D->D
 | .tup [_,d]=>d
 |d=>d
noncomputable def j8 (d:D):Prop:=d= .non∨isT d=v_
noncomputable def Gd (d:D):Prop:=good d=v_/\dp d<=20
theorem gd_flt:∀z∈(["kind","big","told","silent","long","name"]:oj Str),good (flt z)=true:=by decide+kernel
theorem gd_f (h:z∈(["kind","big","told","silent","long","name"]:oj Str)):Gd (flt z):=⟨gd_flt z h,by show dp (.tup [.str "fault",.str z])<=20;simp [dp,dpL]⟩
theorem gd_two {u:Str}{d:D}(O:Qp u=v_)(h:isT d=v_):Gd (.tup [.str u,d]):=by
 have U:=yf h;have hd:=ZM h;refine[?_:?_]
 ·simp only [good,goodL,O,U,Ug]
  rfl
 ·simp only [dp,dpL];omega
theorem gd_three {u w:Str}{d:D}(O:Qp u=v_)(U:Qp w=v_)(h:isT d=v_):Gd (.tup [.str u,.tup [.str w,d]]):=by
 have hg:=yf h;have hd:=ZM h;refine[?_:?_]
 ·simp only [good,goodL,O,U,hg,Ug]
  rfl
 ·simp only [dp,dpL];omega
theorem rowO_gd {B:Str->D}{p:Int}(hr:j7 n 300 r)(h:Tr B)(O:rowO own r B p= .stop e):Gd e:=by
 unfold rowO at O;erw[id hr,ks,hk,hp];erw[r,U,ps];by_cases c1:U∈MKR
 ·rw [A5 c1] at O;simp only at O;generalize made U B own ps=dm at O;have aa:(if isT dm=v_ then Out.go (setB B (b0 ps) dm) (p+1) else .stop (flt "big"))= .stop e->Gd e:=by
   intro hq;by_cases c:isT dm=v_
   ·rw [A5 c] at hq;cases hq
   ·rw [A4 c] at hq;cases hq;exact gd_f ()
  cases dm with
  |non=>cases O;exact gd_f ()
  |_=>exact aa O
 rw [A4 c1] at O;by_cases c2:U∈ASK
 ·rw [A5 c2] at O;cases O;erw[ZY _ hk c2,_,_,ek];simp only at ek;subst ek;erw[Z3 hp,z0,z1,rfl,h0,h1];have hT:=h z1 h1;show Gd (askF U (B z1));unfold askF;by_cases d1:U="names"
  ·rw [A5 d1];by_cases d2:isStr (B z1)=v_
   ·rw [A5 d2];exact gd_three () () hT
   ·rw [A4 d2];exact gd_f ()
  ·rw [A4 d1];by_cases d2:isNm (B z1)=v_
   ·rw [A5 d2];refine gd_three () ?_ hT
    split<;>decide+kernel
   ·rw [A4 d2];exact gd_f ()
 rw [A4 c2] at O;by_cases c3:U="say"
 ·rw [A5 c3] at O;cases O;subst c3;have ek:=frm_say _ hk rfl;simp only at ek;subst ek;erw[sh_b hp,z0,rfl,h0];exact gd_two () (h z0 h0)
 rw [A4 c3] at O;by_cases c4:U="fault"
 ·rw [A5 c4] at O;cases O;exact gd_f ()
 rw [A4 c4] at O;by_cases c5:jump U B ps=v_
 ·rw [A5 c5] at O;cases O
 ·rw [A4 c5] at O;cases O
noncomputable def ansS (rs:oj Rw)(own:Str)(r:Rn)(a:D):Rn:=if XC a=v_ then⟨r.B,r.p,r.n+1,r.gs++ [.tup [zc r.th,a]],flt "lack"⟩ else runS rs own (r.gs++ [.tup [zc r.th,a]]) (300-(r.n+1)) (setB r.B (b0 (jZ rs r.p).2) a) (r.p+1) (r.n+1)
structure RnOk (rs:oj Rw)(r:Rn):Prop where
 tr:Tr r.B
 p1:1<=r.p
 p2:r.p<=rs.length+1
 n:r.n<=300
 gd:Gd r.th
 two:∃w e,r.th= .tup [.str w,e]
 gs:nL r.gs=v_/\dpL r.gs<=30/\r.gs.length<=r.n
 ask:QH r.th=v_->r.p<=rs.length/\(jZ rs r.p).1∈ASK/\r.n<300/\∃(u:Str) (d:D),r.th= .tup [.str "asks",.tup [.str u,d]]/\u∈(["thing","has","names"]:oj Str)/\isT d=v_
mutual
theorem good_n:∀{d:D},good d=v_->nD d=v_
 | .str _,_=>rfl
 | .tup xs,h=>by
  simp only [good,ur] at h;simp only [nD];exact goodL_n h.2
 | .non,h=>by simp [good] at h
 | .bl _,h=>by simp [good] at h
 | .int _,h=>by simp [good] at h
 | .lst,h=>by simp [good] at h
 | .dct,h=>by simp [good] at h
theorem goodL_n:∀{ds:oj D},goodL ds=v_->nL ds=v_
 | [],_=>rfl
 |d::ds,h=>by
  simp only [goodL,ur] at h;simp only [nL];rw [good_n h.1,goodL_n h.2]
  rfl
end
theorem nL_app:∀{xs ys:oj D},nL xs=v_->nL ys=v_->nL (xs++ys)=v_
 | [],_,_,h=>h
 |x::xs,ys,h,h2=>by
  simp only [nL,ur] at h;simp only [vT,nL];rw [h.1,nL_app h.2 h2]
  rfl
theorem dpL_app (n:Nat){xs ys:oj D}(h:dpL xs<=n)(h2:dpL ys<=n):dpL (xs++ys)<=n:=by
 rw [wR] at h h2⊢;intro x O;rcases Aa.mp O with O|O
 ·exact h x O
 ·exact h2 x O
theorem rowO_ask {B:Str->D}{p:Int}(hr:j7 n 300 r)(h:Tr B)(O:rowO own r B p= .stop e)(U:QH e=v_):r.1∈ASK/\∃(u:Str) (d:D),e= .tup [.str "asks",.tup [.str u,d]]/\u∈(["thing","has","names"]:oj Str)/\isT d=true:=by
 unfold rowO at O;erw[id hr,ks,hk,hp];erw[r,r1,ps];by_cases c1:r1∈MKR
 ·rw [A5 c1] at O;simp only at O;generalize made r1 B own ps=dm at O;have aa:(if isT dm=v_ then Out.go (setB B (b0 ps) dm) (p+1) else .stop (flt "big"))= .stop e->False:=by
   intro hq;by_cases c:isT dm=v_
   ·rw [A5 c] at hq;cases hq
   ·rw [A4 c] at hq;cases hq;exact absurd U ()
  cases dm with
  |non=>cases O;exact absurd U ()
  |_=>exact(aa O).elim
 rw [A4 c1] at O;by_cases c2:r1∈ASK
 ·rw [A5 c2] at O;cases O;exists c2;erw[ZY _ hk c2,_,_,ek];simp only at ek;subst ek;erw[Z3 hp,z0,z1,rfl,h0,h1];have hT:=h z1 h1;have U:QH (askF r1 (B z1))=true:=U;show∃u d,askF r1 (B z1)=_/\_;unfold askF at U⊢;by_cases d1:r1="names"
  ·rw [A5 d1] at U⊢;by_cases d2:isStr (B z1)=v_
   ·rw [A5 d2];exact⟨_,0,(),hT⟩
   ·rw [A4 d2] at U;exact absurd U ()
  ·rw [A4 d1] at U⊢;by_cases d2:isNm (B z1)=v_
   ·rw [A5 d2];exact⟨_,0,by split<;>decide+kernel,hT⟩
   ·rw [A4 d2] at U;exact absurd U ()
 rw [A4 c2] at O;by_cases c3:r1="say"
 ·rw [A5 c3] at O;cases O;exact absurd U (by simp only [QH];exact λh=>absurd (um h) ())
 rw [A4 c3] at O;by_cases c4:r1="fault"
 ·rw [A5 c4] at O;cases O;exact absurd U ()
 rw [A4 c4] at O;by_cases c5:jump r1 B ps=v_
 ·rw [A5 c5] at O;cases O
 ·rw [A4 c5] at O;cases O
theorem runS_ok {rs:oj Rw}{own:Str}(hR:yb rs):∀(f:Nat) (B:Str->D) (p:Int) (n:Nat) (gs:oj D),f+n=300->Tr B->1<=p->p<=rs.length+1->nL gs=v_/\dpL gs<=30/\gs.length<=n->RnOk rs (runS rs own gs f B p n)
 |0,B,p,n,gs,hf,hT,h1,h2,hg=>by
  have U:QH (if p>rs.length then flt "silent" else flt "long")=false:=by split<;>decide+kernel
  refine⟨hT,h1,h2,by show n<=300;omega,?_,?_,hg,λh=>absurd (U.symm.trans h) ()⟩
  ·show Gd (if p>rs.length then flt "silent" else flt "long")
   split
   ·exact gd_f ()
   ·exact gd_f ()
  ·show∃w e,(if p>rs.length then flt "silent" else flt "long")=_
   split
   ·exact[_:0]
   ·exact[_:0]
 |f+1,B,p,n,gs,hf,hT,h1,h2,hg=>by
  unfold runS;by_cases c:p>rs.length
  ·rw [A5 c];exact⟨hT,h1,h2,by show n<=300;omega,gd_f (),[_:0],hg,λh=>absurd h (show¬QH (flt "silent")=v_ by decide+kernel)⟩
  ·rw [A4 c];have O:=hR.ok _ (Kb h1 ())
   have hok:=rowO_ok (own:=own) O hT h1 ()
   cases hO:rowO own (jZ rs p) B p with
   |go B' p'=>
    rw [hO] at hok;exact runS_ok hR f B' p' (n+1) gs () hok.1 hok.2.1 hok.2.2 ⟨hg.1,hg.2.1,by have:=hg.2.2;omega⟩
   |stop e=>
    rw [hO] at hok;simp only;refine⟨hT,h1,h2,?_,rowO_gd O hT hO,hok,[hg.1:hg.2.1:?_],λU=> ?_⟩
    ·show(if QH e=v_ then n else n+1)<=300
     split<;>omega
    ·show gs.length<=(if QH e=v_ then n else n+1)
     have:=hg.2.2;split<;>omega
    ·erw[rowO_ask O hT hO U,a1,u,d,a2,a3,a4];refine⟨by show p<=rs.length;omega,a1,?_,u,d,a2,a3,a4⟩
     show(if QH e=v_ then n else n+1)<300
     rw [A5 (show QH e=v_ from U)]
     omega
theorem ansS_ok (hR:yb rs){r:Rn}{a:D}(h:RnOk rs r)(hw:QH r.th=v_)(ha:j8 a):RnOk rs (ansS rs own r a):=by
 erw[h.ask hw,k1,k2,k3,u,d,e,k4,k5];have O:nD a=v_/\dp a<=12:=by
  rcases ha with rfl|ha
  ·exact⟨1,by simp [dp]⟩
  ·exact[good_n (yf ha):ZM ha]
 have aa:=ZM k5;have U:nL (r.gs++ [D.tup [zc r.th,a]])=v_/\dpL (r.gs++ [D.tup [zc r.th,a]])<=30/\(r.gs++ [D.tup [zc r.th,a]]).length<=r.n+1:=by
  rw [e];show nL (r.gs++ [.tup [.tup [.str u,d],a]])=v_/\_;refine[nL_app h.gs.1 ?_:dpL_app 30 h.gs.2.1 ?_:?_]
  ·simp only [nL,nD,good_n (yf k5),O.1,Ug]
  ·show dpL [.tup [.tup [.str u,d],a]]<=30;simp only [dpL,dp];have:=O.2;omega
  ·rw [uu];have:=h.gs.2.2;show r.gs.length+1<=r.n+1;omega
 unfold ansS;cases hn:XC a with
 |true=>
  rw [A5 rfl];exact⟨h.tr,h.p1,h.p2,by show r.n+1<=300;omega,⟨(by decide+kernel:good (flt "lack")=v_),by show dp (.tup [.str "fault",.str "lack"])<=20;simp [dp,dpL]⟩,[_:0],U,λh=>absurd h (show¬QH (flt "lack")=v_ by decide+kernel)⟩
 |false=>
  rw [A4 u9];have hT:isT a=true:=by
   rcases ha with rfl|ha
   ·cases hn
   ·exact ha
  refine runS_ok hR _ _ _ _ _ () (Ki h.tr hT) (by have:=h.p1;omega) () U
theorem zB {d:D}{u:V}(O:Is H d u)(U:d≠ .non):u≠ .non:=by
 rintro rfl;cases d with
 |non=>exact U rfl
 |bl b=>cases(show V.non= .bl b from O)
 |int i=>cases(show V.non= .int i from O)
 |str z=>erw[O,h,_];cases h
 |lst=>erw[O,_,_,h,_];cases h
 |dct=>erw[O,_,_,h,_];cases h
 |tup xs=>erw[O,_,_,h,_];cases h
theorem ask_sh (O:j7 n 300 r)(hs:r.1∈ASK):∃U z1,r.2= [.s U,.s z1]/\U∈BX:=by
 erw[id O,ks,hk,hp];erw[ZY _ hk hs,_,_,ek];simp only at ek;subst ek;erw[Z3 hp,x,y,e,hx,hy];exact⟨x,y,e,hx⟩
noncomputable def isRow:D->Bool
 | .tup xs=>xs.all isNm
 |_=>V7
noncomputable def ansB (u:Str)(a:D):Bool:=if XC a=v_ then decide (u="thing") else if isT a=v_ then(if u="has" then(["yes","no"]:oj Str).any (λz=>eqD a (.str z)) else decide (u="thing")||isRow a) else V7
theorem ansB_ok {u:Str}{a:D}(h:ansB u a=v_):j8 a:=by
 unfold ansB at h;cases hn:XC a with
 |true=>
  cases a with
  |non=>exact .inl rfl
  |_=>cases hn
 |false=>
  rw [hn,A4 u9] at h;by_cases c:isT a=v_
  ·exact .inr c
  ·rw [A4 c] at h;cases h
inductive sp_rown (vs:List V) (H:Hp) (Q:VK) (E_:XK):Prop
 |mk (v:V) (d:D) (_:vs= [v]) (_:Is H d v) (_:isT d=v_) (_:∀H',Same H H'->Q (.bl (isRow d)) H')
inductive sp_isans (vs:List V) (H:Hp) (Q:VK) (E_:XK):Prop
 |mk (v1 v2:V) (u:Str) (d a:D) (_:vs= [v1,v2]) (_:Is H (.tup [.str u,d]) v1) (_:Is H a v2) (_:∀H',Same H H'->Q (.bl (ansB u a)) H')
inductive sp_ans (C:Addr) (vs:List V) (H:Hp) (Q:VK) (E_:XK):Prop
 |mk (m:Mc) (r:Rn) (v:V) (u:Str) (d a:D) (_:vs= [.ref m.x,v]) (_:yM C H m r) (_:RnOk m.rs r) (_:r.th= .tup [.str "asks",.tup [.str u,d]]) (_:Is H a v) (_:yb m.rs) (_:m.own.length<=100) (_:ansB u a=v_) (_:∀H',Mv m H H'->yM C H' m (ansS m.rs m.own r a)->Q .non H')
theorem ok_rown (T:Tx K mg a):#[K,2,a.ji,a.jo,["tree"],sp_rown]:=by
 have QX:=#[zf,T];refine T.g_is_row_of_names.F.ok Xy () (λ_ _ _ _ H vs Q E hr h=> ?_)
 erw[h,v,d,rfl,iv,hT,k];exists _,%[|#[qt,#[pe_and,7,#[qx,#[qU,2,rfl],T.qS,uX,#v[pv 0,#[Q3,.ty "tuple",T.QN,vx]]],#[pe_one,#[qx,#[wH,1,rfl],T.z_all,HZ,#v[#[zI,["part"],[],lcs0,#[ZN,pv 0],(λ_ _ _ _ _ _=>#[qT,(0),(show Vp (["part"]:oj Str) by decide+kernel)]),(λ_ _ _ _ _ _=>#[qw,QX,T.g_is_name,#v[pv 0]])]]]]]]]
 exists 7
 exists 0,v,"tuple",tyD d,XH d,1,iv.ty,JK _;cases d with
 |tup xs=>
  refine[0:iteT ?_];erw[iv,a0,vs,rfl,O,U];have hl:xs.length<=1000:=by
   have hg:=yf hT;simp only [good,ur] at hg;have:=um hg.1;omega
  refine⟨0,a0,vs,1,SqT.of O,λac A0 aa=> ?_⟩;refine lc_tupS (tl:= []) (λd=> .bl (isNm d)) O U (yq hl) aa (λd0 x0 H3 R ad s3 i3 r=> ?_) λH1 ys s1 l1 i1=> ?_
  ·exact⟨0,x0,d0,1,i3,λH4 s4=>r _ H4 s4 rfl⟩
  have ey:ys=(xs.map isNm).map V.bl:=IsL.bls (by rwa [uK])
  exists A0,xs.map isNm,1,SqL.of (by rw [l1,ey])
  have:(xs.map isNm).all id=isRow (.tup xs):=by rw [UJ];rfl
  rw [this];exact k H1 s1
 |str z=>exact[0:iteF (k H (Same.refl _))]
 |non=>exact[0:iteF (k H (Same.refl _))]
 |int z=>exact[0:iteF (k H (Same.refl _))]
 |bl z=>exact[0:iteF (k H (Same.refl _))]
 |lst=>exact[0:iteF (k H (Same.refl _))]
 |dct=>exact[0:iteF (k H (Same.refl _))]
theorem ok_isans (T:Tx K mg a):#[K,3,a.wC,a.wD,["ask","answer"],sp_isans]:=by
 have yz:=#[jf,T];have zD:=#[ok_rown,T];exists 9,T.g_is_answer,sc_is_answer
 erw[h,v1,v2,u,d,an,rfl,i1,U,k];exists _,%[#[qI,#[qq,Ym,pv 1,qX],%[|#[qt,#[YA,Qs,#[qH,JS,pv 0,ql],qm,qz _]]],qv],#[qI,#[Qy,#[Qj,#[qw,yz,T.g_is_tree,#v[pv 1]]]],%[|#[qt,Ja]],qv],#[qI,#[qq,Qs,#[qH,JS,pv 0,ql],qm],%[|#[qt,#[YA,#[op_inM,1,hr.units],pv 1,#[qE,#v[qm,qm]],#[w]]]],qv]|#[qt,#[pe_or,7,#[YA,Qs,#[qH,JS,pv 0,ql],qm,qz _],#[pe_one,#[qw,zD,T.g_is_row_of_names,#v[pv 1]]]]]]
 exists 7
 have two:(2:Nat)<=sizeLine:=by decide
 have es:∀y:Str,decide (V.str u=V.str y)=decide (u=y):=λy=>by
  rw [uZ];exact⟨λh=>by injection h,λh=>by rw [h]⟩
 have iu:∀{H:Hp}{Q:VK},Is H (.tup [.str u,d]) v1->Q (.str u) H->rIxT K v1 (.int 0) H Q:=λ{H Q} i q=>xz (i:=0) (d:= .str u) i (Qm (j:=0) rfl) λx hx=>by
  erw[hx,rfl,_];exact q
 exists 0,1,0;unfold ansB at k;by_cases cn:an= .non
 ·subst cn;cases(show v2= .non from U)
  refine QF () ?_
  refine[0:.inr (.inl (iu i1 [1:?_]))];rw [es];exact k H (Same.refl _)
 ·have aa:v2≠ .non:=zB U cn;have ac:XC an=false:=by
   cases an with
   |non=>exact absurd rfl cn
   |_=>rfl
  rw [ac,A4 u9] at k;refine Qt (uc aa) ?_;refine⟨0,v2,an,1,U,λH1 s1=>[0:?_]⟩;by_cases O:isT an=v_
  ·rw [A5 O] at k;rw [O];refine iteF ?_;refine[0:.inr (.inl (iu (i1.mono s1.tk) [1:0:?_]))];rw [es];by_cases ch:u="has"
   ·rw [A5 ch] at k;refine QF (ub ch) ?_;refine[0:two:λt1 h1=> ?_];have s2:=qg h1 (.tup [.str "yes",.str "no"]);refine⟨an,t1,["yes","no"],(U.mono s1.tk).mono s2.tk,1,.inr (SqT.of qh),?_,?_,?_,k _ (s1.trans s2)⟩
    ·intro z hz;simp only [uz,vj,uM] at hz;rcases hz with rfl|rfl<;>decide+kernel
    ·have hg:=yf O;cases an with
     |non=>rfl
     |str z=>rfl
     |tup xs=>
      show puL xs=v_;simp only [good,ur] at hg;exact goodL_pu hg.2
     |_=>simp [good] at hg
    ·have:=ZM O;omega
   ·rw [A4 ch] at k;refine Qt (uc ch) ?_;refine[0:.inr (.inl (iu (i1.mono s1.tk) [1:?_]))];exists 0;rw [es];by_cases ct:u="thing"
    ·rw [ub ct] at k⊢;refine iteT ?_;exact k _ s1
    ·rw [uc ct] at k⊢;refine iteF ?_;exact⟨0,v2,an,1,U.mono s1.tk,O,λH2 s2=>k H2 (s1.trans s2)⟩
  ·rw [A4 O] at k;have:isT an=false:=by
    cases h:isT an with
    |true=>exact absurd h O
    |false=>rfl
   rw [this];exact iteT (k _ s1)
theorem ok_ans (T:Tx K mg a)(C:Fx K w mg g a):#[K,6,a.jT,a.jN,["self","tree"],(sp_ans a.qo)]:=by
 have Qo:=#[ok_wait,T];have O:=#[ok_isans,T];have Ys:=#[ok_goon,T,C];exists 9,T.g_Machine_answer,jk
 erw[h,m,[B,p,n,gs,th],v,u,d,an,rfl,M,hO,am,iv,hR,aQ,ao,k];exists _,%[#[qI,#[Qy,#[Qj,#[QB,pv 0,T.qr,T.g_Machine_is_waiting,Qo]]],%[|js],qv],#[qC,(2),jk.nd,#[qH,JS,#[qN,5,pv 0,rfl],ql]],#[qI,#[Qy,#[Qj,#[qw,O,T.g_is_answer,#v[pv 2,pv 1]]]],%[|js],qv],#[qV,#[jh,uR,vm,vn,Ya,#[qN,5,pv 0,rfl],#v[#[qE,#v[pv 2,pv 1]]]]],#[Jf,10,pv 0,ql,in_add],#[qI,#[qq,Ym,pv 1,qX],%[#[Qc,#[qE,#v[qm,qm]]]|ps_retN],qv],#[YH,#[qN,5,pv 0,rfl],#[qH,JS,#[qH,JS,#[qH,qF,#[qN,5,pv 0,rfl],#[qY,op_sub,#[qN,5,pv 0,rfl],ql]],ql],ql],pv 1],#[Jf,10,pv 0,ql,in_add],#[Qc,qX]|#[qV,#[QB,pv 0,T.qr,T.g_Machine_go_on,Ys]]]
 exists 7
 simp only at am;subst am;have two:(2:Nat)<=sizeLine:=by decide
 have hw:QH (.tup [.str "asks",.tup [.str u,d]])=true:=by simp [QH]
 erw[hO.ask hw,ag,ae,aR,_];have ah:=hO.p1;have ap:=hO.gs.2.2;have aq:=hO.tr;simp only at ag ae aR ah ap aq;have hM:=M;erw[hM,dx,fs,rv,ru,tv,gv,e,f,ir,ij,ib,hg,gl,it];simp only at f ib gl it;have aS:fs.length<1000:=by have:=f.len;omega
 exists 8,N1,q1;exists 0,m.x,dx,fs,1,e,f.meth _ (),m,0,M,.inr [_:0],0
 refine Qt (by show(!QH (.tup [.str "asks",.tup [.str u,d]]))=V7;rw [hw];rfl) ?_
 refine q1 _ _ ?_;exists 8,N2,q2;refine⟨0,m.x,_,dx,fs,0,e,T.qr,T.qL,f.there,.inr (.inl (xz (i:=1) it (Qm (j:=1) rfl) λq hq=> ?_))⟩;refine q2 _ _ ?_;exists 8,N3,q3;refine⟨0,0,q,v,u,d,an,1,hq,iv,λH1 s1=>[0:?_]⟩;rw [ao];refine iteF ?_;refine q3 _ _ ?_;exists 8,N4,q4;have ha:=ansB_ok ao;refine⟨0,m.x,_,dx,fs,0,s1 _ _ e,T.qr,T.YB,f.given,.inl [1:_:SqL.of (s1 _ _ hg)],0,0,two,λt1 h1=> ?_⟩;have s2:=qg h1 (.tup [q,v]);have ip:Is (upd H1 t1 (.tup [q,v])) (.tup [.tup [.str u,d],an]) (.ref t1):=Is.new (ds:= [.tup [.str u,d],an]) ⟨_,0,hq.mono s1.tk,_,0,iv.mono s1.tk,1⟩ h1;have S2:=s1.trans s2;generalize upd H1 t1 (.tup [q,v])=H2 at s2 ip S2⊢;have bh:gv.length=gs.length:=gl.length;have au:=S2 _ _ hg;exists m.dg,gv,0,1,au,X2 ()
 have t3:Tk H2 (upd H2 m.dg (.lst (gv++ [.ref t1]))):=Tk.updL au;have aT:m.x≠m.dg:=λz=>by rw [<-z,e] at hg;cases hg
 have aw:m.db≠m.dg:=λz=>by
  erw[ib,ff,e2,_];rw [z,hg] at e2;cases e2
 have e3:(upd H2 m.dg (.lst (gv++ [.ref t1]))) m.x=u_ (.ins a.qo dx fs):=by rw [qi aT];exact S2 _ _ e
 have T3:Tk H (upd H2 m.dg (.lst (gv++ [.ref t1]))):=S2.tk.trans t3;have ax:=(ib.same S2).move t3 (qi aw);have ay:L2.IsL (upd H2 m.dg (.lst (gv++ [.ref t1]))) (gs++ [.tup [.tup [.str u,d],an]]) (gv++ [.ref t1]):=(gl.mono T3).append (IsL.one (ip.mono t3));have aA:(upd H2 m.dg (.lst (gv++ [.ref t1]))) m.dg=u_ (.lst (gv++ [.ref t1])):=qh;have aB:Mv m H (upd H2 m.dg (.lst (gv++ [.ref t1]))):=⟨λb o h _ _ n3=>by rw [qi n3];exact S2 b o h,T3⟩
 generalize upd H2 m.dg (.lst (gv++ [.ref t1]))=H3 at t3 e3 T3 ax ay aA aB⊢;refine q4 _ _ ?_;exists 8,N5,q5;exists 0,m.x,_,dx,fs,0,e3,T.qr,T.Q9,f.done,(n:Int),(1),1,1,dx,fs,e3,aS;erw[yl (r:=⟨B,p,n+1,gs++ [.tup [.tup [.str u,d],an]],.tup [.str "asks",.tup [.str u,d]]⟩) e3 (f.set_done (k:=n+1)) (ir.mono T3) (ij.mono T3) ax aA ay (it.mono T3),M4,aC];have ac:=aB.trans aC;have aD:=iv.mono ac.tk;refine q5 _ _ ?_;show tSeq _ _ _ _ (upd H3 m.x (.ins a.qo dx (putF "done" (.int ((n+1:Nat):Int)) fs)));generalize upd H3 m.x (.ins a.qo dx (putF "done" (.int ((n+1:Nat):Int)) fs))=H4 at M4 aC ac aD⊢;erw[M4,aa,U,bo,bp,bq,bt,e4,f4,ak,aE,ad,aF,al,aG];simp only at f4 ad al aG;have af:U.length<1000:=by have:=f4.len;omega
 exists 8,N6,q6;exists 0,1,0;by_cases cn:an= .non
 ·subst cn;cases(show v= .non from iv)
  refine QF () ?_
  refine[two:λl hl=> ?_];have s5:=qg hl (.tup [.str "fault",.str "lack"]);exists 0,m.x,_,aa,U,1,s5 _ _ e4,T.qr,T.qL,af;erw[yl (r:=⟨B,p,n+1,gs++ [.tup [.tup [.str u,d],.non]],flt "lack"⟩) (s5 _ _ e4) (f4.set_there (u:= .ref l)) (ak.mono s5.tk) (aE.mono s5.tk) (ad.same s5) (s5 _ _ aF) (al.mono s5.tk) (Is.new (ds:= [.str "fault",.str "lack"]) ⟨_,0,[1:yq ()],_,0,[1:yq ()],1⟩ hl),m1,m2]
  exact k _ (ac.trans ((Mv.of s5).trans m2)) m1
 ·have hT:isT an=true:=ha.resolve_left cn;have aU:v≠ .non:=zB iv cn;have aV:XC an=false:=by
   cases an with
   |non=>exact absurd rfl cn
   |_=>rfl
  refine Qt (uc aU) ?_;refine q6 _ _ ?_;exists 8,N7,q7;erw[ask_sh (hR.ok _ (Kb ah ag)) ae,z0,z1,aH,aW];have aX:b0 (jZ m.rs p).2=z0:=by rw [aH];rfl
  erw[ad.put aW aD,kvs,aI,aY,t5];have aZ:atI (m.rs.map rowD) (p-1)=u_ (rowD (jZ m.rs p)):=by
   rw [show p-1=((p.toNat-1:Nat):Int) by omega]
   exact Qm (by rw [uE,row_at ah ag];rfl)
  have a1:m.db≠m.x:=Yo.ne e4 ad;have a3:m.dg≠m.db:=aw.symm;exists 0,0,m.x,_,aa,U,0,e4,T.qr,T.Qw,f4.boxes,0,m.x,_,aa,U,0,e4,T.qr,T.y8,f4.rows,0,m.x,_,aa,U,0,e4,T.qr,T.Qi,f4.place,_,0,1;refine xz (d:=rowD (jZ m.rs p)) ak aZ λq5 a4=> ?_;refine .inr (.inl (xz (i:=1) a4 (Qm (j:=1) rfl) λq6 aJ=> ?_));rw [aH] at aJ;refine .inr (.inl (xz (i:=0) (d:= .str z0) aJ (Qm (j:=0) rfl) λq7 a5=> ?_));erw[a5,rfl,_];exists m.db,0,aI;have e5:(upd H4 m.db (.dK kvs)) m.x=u_ (.ins a.qo aa U):=by rwa [qi a1.symm]
  refine q7 _ _ ?_;exists 8,N8,q8;exists 0,m.x,_,aa,U,0,e5,T.qr,T.Qi,f4.place,p,(1),1,1,aa,U,e5,af;obtain⟨M6,a6⟩:=yl (r:=⟨setB B z0 an,p+1,n+1,gs++ [.tup [.tup [.str u,d],an]],.tup [.str "asks",.tup [.str u,d]]⟩) e5 (f4.set_place (q:=p+1)) (ak.mono t5) (aE.mono t5) aY (by rwa [qi a3]) (al.mono t5) (aG.mono t5)
  have aK:=ac.trans (Mv.trans ⟨λb o h _ a2 _=>by rwa [qi a2],t5⟩ a6)
  erw[M6,a7,aL,bu,bv,bw,bx,e6,f6,a8,a9,aM,ba,aN,bb];simp only at f6 aM aN bb;have aO:aL.length<1000:=by have:=f6.len;omega
  refine q8 _ _ ?_;exists 8,N9,q9;exists 0,m.x,_,a7,aL,1,e6,T.qr,T.qL,aO;erw[yl (r:=⟨setB B z0 an,p+1,n+1,gs++ [.tup [.tup [.str u,d],an]],.non⟩) e6 (f6.set_there (u:= .non)) a8 a9 aM ba aN rfl,M7,bc];have aP:=aK.trans bc;erw[id M7,be,bf,bA,bB,bC,bD,e7,f7,r7];refine q9 _ _ ?_;refine⟨0,m.x,be,bf,1,e7,f7.meth _ (),m,0,M7,1,Ki aq hT,aQ,hR,by show 1<=p+1;omega,by show p+1<=_;omega,by show n+1<=300;omega,λH8 bg M8=>k H8 (aP.trans bg) ?_⟩
  unfold ansS;rw [aV,A4 u9];simp only;rw [aX];exact M8
noncomputable def PotQ (H:Hp)(p:o3):Prop:=∃x:Int,H p=u_ (.lst [.int x])/\0<=x
theorem PotQ.same (h:PotQ H p)(s:Same H H'):PotQ H' p:=by
 erw[h,x,e,r];exact[x:s _ _ e:r]
theorem PotQ.free {l:o3}(h:PotQ H p)(n:H l=U_):p≠l:=by
 erw[h,x,e,r];exact qk e n
theorem PotQ.tk (h:PotQ H p)(h':PotQ H' p)(k:Kept p H H'):Tk H H':=by
 erw[h,x,e,_];erw[h',U,O,_];exact k.tk e O
inductive sp_takQ (vs:List V) (H:Hp) (Q:VK) (E_:XK):Prop
 |mk (p:Addr) (many:Int) (_:vs= [.ref p,.int many]) (_:PotQ H p) (_:0<many) (_:many<1073741824) (_:∀(d:Int) (H':Hp),0<=d->d<many->PotQ H' p->Kept p H H'->Q (.int d) H')
inductive sp_potQ (vs:List V) (H:Hp) (Q:VK) (E_:XK):Prop
 |mk (c t:Int) (_:vs= [.int c,.int t]) (_:0<=t) (_:t<1000) (_:∀(p:Addr) (H':Hp),H p=U_->Same H H'->PotQ H' p->Q (.ref p) H')
theorem jK (T:Tx K mg a):#[K,1,a.WZ,a.WR,["pot","many"],sp_takQ]:=by
 exists 9,T.g_law_take,wj
 erw[h,p,many,rfl,[x,O,hx],hm,U,k];exists _,%[#[qC,(2),wj.nd,#[qY,XB,#[qH,yK,pv 0,ql],pv 1]],#[ps_asg,6,#[qY,op_fdiv,#[qH,yK,pv 0,ql],pv 1],#[pg_sub,7,pv 0,ql,set_list,_],_,_,_]|#[qt,pv 2]]
 exists 7
 exists 0,p,_,_,0,1,SqL.of O,1,0,_,0,1,hm;exists 0,p,_,_,0,1,SqL.of O,1,0,_,0,1,[hm:U],0,p,_,_,0,1,O,1;exists 0;refine k _ _ (Uy _ ()) (U7 _ hm) [x/many:qh:Int.ediv_nonneg hx ()] (Kept.upd _ _ _)
theorem ok_potQ (T:Tx K mg a):#[K,1,a.f_law_pot,a.d_law_pot,["cell","salt"],sp_potQ]:=by
 exists 9,T.g_law_pot,Yq
 erw[h,c,t,rfl,h0,h1,k];exists _,%[#[qI,#[qq,op_ge,#[qx,call_abs,T.z_abs,boot_abs,#v[pv 0]],#[qY,op_pow,ql,ql]],%[|#[qt,#[QT,#v[#[qx,call_abs,T.z_abs,boot_abs,#v[pv 0]]]]]],qv],#[qC,(2),Yq.nd,#[qY,XB,#[qY,op_mul,#[qY,yx,#[qY,yx,#[qY,XB,pv 0,ql],#[qY,op_mul,ql,pv 1]],ql],ql],ql]],#[qC,(3),Yq.nd,ql],#[YV,#[jj,#v[ql]],#[qT,(4),Yq.nd],%[#[qC,(2),Yq.nd,#[qY,XB,#[qY,yx,#[qY,yx,#[qY,op_mul,pv 2,pv 2],#[qY,op_mul,ql,pv 4]],ql],ql]]|#[qC,(3),Yq.nd,#[qY,yx,#[qY,op_mul,pv 3,ql],pv 2]]]]|#[qt,#[QT,#v[pv 3]]]]
 exists 7
 exists 0,0,_,0,1,[():():()],_,0,1,0
 refine ite2 (λ_=> ?_) (λ_=> ?_)
 ·refine⟨0,0,(sml rfl),λp O=> ?_⟩;refine k p _ O (qg O _) [_:qh:?_];split<;>omega
 ·refine⟨0,_,0,1,(by show(0:Int)<2147483647;decide),0,_,0,1,(.inl [():()]),_,0,1,_,0,1,_,0,1,(.inr [():()]),_,0,1,(by show(0:Int)<2147483647;decide),(9),1,(),(),?_⟩
  let J1_:Nat->L2.St->Hp->Prop:=λi σ H'=>∃(x b:Int) (kv:om V),σ= [u_ (.int c),u_ (.int t),u_ (.int x),u_ (.int b),kv]/\0<=x/\x<2147483647/\0<=b/\H'=H
  refine for_range (n:=9) J1_ ⟨_,_,U_,1,Uy _ (),U7 _ (),(),1⟩ ?_ ?_
  ·rintro i σ H' hi ⟨x,b,kv,rfl,aa,ac,hb,rfl⟩;have U:CMul x x:= .inl [():()]
   refine⟨0,0,_,0,1,U,0,_,0,1,(.inl [():()]),_,0,1,_,0,1,_,0,1,(by show(0:Int)<2147483629;decide),0,_,0,1,(.inr [():()]),0,_,0,1,?_⟩
   have q0:0<=(x*x+40692*(0+(i:Int))+3)%2147483629:=Uy _ ()
   have q1:(x*x+40692*(0+(i:Int))+3)%2147483629<2147483629:=U7 _ ()
   exact⟨_,_,0,q0,Int.lt_trans q1 (),Int.add_nonneg (Int.mul_nonneg hb ()) q0,1⟩
  ·rintro σ H' ⟨x,b,kv,rfl,aa,ac,hb,rfl⟩;exact[0:(sml rfl):λp O=>k p _ O (qg O _) [_:qh:hb]]
noncomputable def Nm4 (zs:oj Str):Prop:=1<=zs.length/\zs.length<=60/\∀z∈zs,nm z=v_/\z.length<=4
noncomputable def Wd (n:Nat)(z:Str):Prop:=jY z=v_/\z.length<=n
theorem Kept.of (s:Same H H'):Kept p H H':=λb o e _=>s b o e
theorem PotQ.ne_strs {l:o3}(h:PotQ H p)(e:H l=u_ (.lst (zs.map V.str))):l≠p:=λz=>by
 erw[h,x,O,_];rw [<-z,e] at O;cases zs with
 |nil=>cases O
 |cons a r=>simp at O
inductive sp_word (vs:List V) (H:Hp) (Q:VK) (E_:XK):Prop
 |mk (p L:Addr) (zs:List Str) (_:vs= [.ref p,.ref L]) (_:PotQ H p) (_:H L=u_ (.lst (zs.map V.str))) (_:Nm4 zs) (_:∀(z:Str) (H':Hp),Wd 4 z->PotQ H' p->Kept p H H'->Q (.str z) H')
inductive sp_line (vs:List V) (H:Hp) (Q:VK) (E_:XK):Prop
 |mk (p L:Addr) (zs:List Str) (many k:Nat) (_:vs= [.ref p,.ref L,.int (many:Int),.int (k:Int)]) (_:PotQ H p) (_:H L=u_ (.lst (zs.map V.str))) (_:Nm4 zs) (_:1<=many) (_:many<=12) (_:k<=12) (_:∀(z:Str) (H':Hp),Wd 20 z->PotQ H' p->Kept p H H'->Q (.str z) H')
noncomputable def FIV:oj Str:= ["","x","b1 g","yes","c/d"]
theorem fiv_ok:∀z∈FIV,Wd 4 z:=by
 have:∀z∈FIV,jY z=v_/\z.length<=4:=by decide+kernel
 exact this
theorem nm_all (h:nm z=v_):jY z=true:=okN_all (nm_okN h)
theorem wd_of (h:Nm4 zs):∀z∈zs++FIV,Wd 4 z:=λz O=>by
 rcases Aa.mp O with h1|h1
 ·exact[nm_all (h.2.2 z h1).1:(h.2.2 z h1).2]
 ·exact fiv_ok z h1
theorem Wd.cat {m k:Nat}{y:Str}(h:Wd n x)(h':Wd m y)(e:n+m<=k):Wd k (x++y):=⟨okAll_app h.1 h'.1,by rw [app_len];have:=h.2;have:=h'.2;omega⟩
theorem join_ok:∀{l:oj Str},(∀z∈l,jY z=v_)->Wd ((l.map (·.length)).sum+l.length) (Vg " " l)
 | [],_=>[1:uN _]
 | [z],h=>⟨h z (by simp),by show z.length<=_;simp⟩
 |z::y::r,h=>by
  have O:=join_ok (l:=y::r) λx U=>h x (ue _ U);have hz:=h z (by simp)
  have e:=L2.Ji z y r;refine[?_:?_]
  ·show(Vg " " (z::y::r)).cps.toList.all QD=v_;rw [e,UR,vz,show z.cps.toList.all QD=v_ from hz,show(Vg " " (y::r)).cps.toList.all QD=v_ from O.1]
   decide
  ·rw [kU,e,uu,ui,<-kU,<-kU];have h1:=O.2;simp only [uq,UB,ui] at h1⊢;omega
noncomputable def WL:oj Str:= ["ask","ask","ask","has","names","text","text","copy","put","put","join","first","first","rest","size","cut","glue","like","none","rowed","go","say","fault","self"]
noncomputable abbrev WTX:Str:="ask ask ask has names text text copy put put join first first rest size cut glue like none rowed"
theorem wl_spl:spl ((WTX++(" go say fault self":Str)).length+1) (WTX++(" go say fault self":Str))=WL:=by decide+kernel
theorem wl_ok:∀z∈WL,Wd 5 z:=by
 have:∀z∈WL,jY z=v_/\z.length<=5:=by decide+kernel
 exact this
theorem abc_ok:∀c∈("abcdh":Str).cps.toList,QD c=true:=by decide+kernel
theorem abc_at {d:Int}(h0:0<=d)(h1:d<5):∃c,atI ("abcdh":Str).cps.toList d=u_ c/\Wd 1 ⟨#[c]⟩:=by
 obtain⟨c,O⟩:=YR (xs:=("abcdh":Str).cps.toList) h0 (by show d<5;exact h1)
 refine⟨c,O,?_,uh _⟩;show [c].all QD=v_;rw [vz,abc_ok c (JC O)]
 rfl
theorem num_ok:∀k:Nat,k<13->jY (Vh (k:Int):Str)=v_/\(Vh (k:Int):Str).length<=2:=by decide+kernel
theorem ok_word (T:Tx K mg a):#[K,2,a.WC,a.kn,["pot","names"],sp_word]:=by
 have qQ:=#[jK,T];exists 9,T.g_law_word,Wg
 erw[h,p,L,zs,rfl,hP,hL,U,k];have hs:=uB;have ac:=U.1;have ad:=U.2.1;exists _,%[#[qC,(2),Wg.nd,#[qY,op_cat,pv 1,#[QT,#v[qm,qm,qm,qm,qm]]]]|#[qt,#[qH,yK,pv 2,#[qw,qQ,T.g_law_take,#v[pv 0,#[qx,qM,T.yt,uG,#v[pv 2]]]]]]]
 exists 7
 refine[0:(sml rfl):λq hq=> ?_];have s1:Same H (upd H q (.lst [.str "",.str "x",.str "b1 g",.str "yes",.str "c/d"])):=qg hq _;refine⟨L,q,_,0,1,s1 _ _ hL,qh,(by rw [ua];show _+5<=Vb;omega),λl hl=> ?_⟩
 have s2:=s1.trans (qg hl (.lst (zs.map V.str++ [.str "",.str "x",.str "b1 g",.str "yes",.str "c/d"])));have O:(upd (upd H q (.lst [.str "",.str "x",.str "b1 g",.str "yes",.str "c/d"])) l (.lst (zs.map V.str++ [.str "",.str "x",.str "b1 g",.str "yes",.str "c/d"]))) l=u_ (.lst ((zs++FIV).map V.str)):=by rw [qh,Vc];rfl
 generalize upd (upd H q (.lst [.str "",.str "x",.str "b1 g",.str "yes",.str "c/d"])) l (.lst (zs.map V.str++ [.str "",.str "x",.str "b1 g",.str "yes",.str "c/d"]))=H2 at s2 O⊢;have P2:=hP.same s2;have l5:((zs++FIV).map V.str).length=zs.length+5:=by rw [ua,uu];rfl
 refine⟨0,0,0,l,0,.inl (SqL.of O),p,0,P2,by rw [l5];omega,by rw [l5];omega,λd H' d0 d1 P3 K3=> ?_⟩
 have aa:=K3 _ _ O (P2.ne_strs O);erw[YR (xs:=(zs++FIV).map V.str) d0 d1,v,hv];erw[Ab.mp (JC hv),z,hz,rfl];exact⟨l,_,d,0,1,SqL.of aa,hv,k z H' (wd_of U z hz) P3 ((Kept.of s2).trans K3)⟩
theorem sums {c:Nat}:∀{l:oj Str},(∀z∈l,z.length<=c)->(l.map (·.length)).sum<=l.length*c
 | [],_=>by simp
 |z::r,h=>by
  have:=sums λy O=>h y (ue _ O);have:=h z uf;simp only [uq,UB,ui,R1,rX];omega
theorem joins {K:o0}(hl:l.length<=3)(O:Wd 5 z)(h:∀z∈l,Wd 2 z)(k:∀y H',Wd 20 y->Same H H'->Q (.str y) H'):((z::l).map V.str).length<=Vb/\∀p,H p=U_->rJoin K (.str " ") [.ref p] (upd H p (.lst ((z::l).map V.str))) Q:=by
 have hs:=uB;have h1:=sums (c:=2) λz O=>(h z O).2;have h2:=O.2;refine⟨by rw [ua,ui];omega,λp hp=>⟨" ",p,z::l,1,1,SqL.of qh,?_,?_⟩⟩
 ·have e:(" ":Str).length=1:=rfl;rw [e];simp only [uq,UB,ui];omega
 ·have:=join_ok (l:=z::l) λy U=>by
   rcases A8.mp U with rfl|U
   ·exact O.1
   ·exact(h y U).1
  refine k _ _ [this.1:?_] (qg hp _);have h3:=this.2;simp only [uq,UB,ui] at h3;omega
theorem ok_line (T:Tx K mg a):#[K,3,a.WN,a.kl,["pot","names","many","k"],sp_line]:=by
 have qQ:=#[jK,T];have QU:=#[ok_word,T];exists 9,T.g_law_line,yj
 erw[h,p,L,zs,many,i,rfl,hP,hL,hN,aA,aB,hi,k];exists _,%[#[qC,(4),yj.nd,qm],#[qC,(5),yj.nd,#[qH,yK,#[jh,uT,Up,Uq,mt_split,#[qY,Qf,pv 4,qm],#v[qm]],#[qw,qQ,T.g_law_take,#v[pv 0,ql]]]],#[ps_asg,6,#[zI,["j","pot"],[0],lcsN (qj J9) ["pot","names","many","k","words","word","one","two","three","at"],#[jj,#v[ql]],(λ_ _ _ _ _ _=>#[qT,(0),(show Vp (["j","pot"]:oj Str) by decide+kernel)]),(λ_ _ _ _ _ _=>#[qH,ix_str,qm,#[qw,qQ,T.g_law_take,#v[pv 1,ql]]])],#[pg_lstU,6,rfl,yD #[qT,(6),yj.nd] (yD #[qT,(7),yj.nd] (yD #[qT,(8),yj.nd] ZP)),_,_],_,_,_],#[qC,(9),yj.nd,#[qZ,Y1,T.zE,UF,#v[#[qx,#[call_min2,1,rfl],T.z_min,boot_min,#v[pv 2,#[qY,yx,#[qY,yx,pv 3,ql],#[qw,qQ,T.g_law_take,#v[pv 0,pv 2]]]]]]]],#[qI,#[qq,Qs,pv 5,qm],%[|#[qt,#[qY,Qf,#[qY,Qf,#[qY,Qf,qm,pv 6],qm],#[qw,QU,T.g_law_word,#v[pv 0,pv 1]]]]],qv],#[qI,#[qq,8,QZ,pv 5,#[QT,#v[qm,qm]],#[w]],%[|#[qt,#[qY,Qf,#[qY,Qf,pv 5,qm],pv 6]]],qv],#[qI,#[qq,Qs,pv 5,qm],%[|#[qt,pv 5]],qv],#[qI,#[qq,Qs,pv 5,qm],%[|#[qt,#[qY,Qf,qm,pv 9]]],qv],#[qI,#[qq,8,QZ,pv 5,#[QT,#v[qm,qm]],#[w]],%[|#[qt,#[jh,uT,U5,U6,Kf,qm,#v[#[QT,#v[pv 5,pv 6,pv 9]]]]]],qv],#[qI,#[qq,Qs,pv 5,qm],%[|#[qt,#[jh,uT,U5,U6,Kf,qm,#v[#[QT,#v[pv 5,pv 6,pv 7,pv 9]]]]]],qv],#[qI,#[qq,8,QZ,pv 5,#[QT,#v[qm,qm]],#[w]],%[|#[qt,#[jh,uT,U5,U6,Kf,qm,#v[#[QT,#v[pv 5,pv 6,pv 7,pv 8]]]]]],qv]|#[qt,#[jh,uT,U5,U6,Kf,qm,#v[#[QT,#v[pv 5,pv 6,pv 7]]]]]]
 exists 7
 refine⟨0,_,0,1,(),1,0,1,(),λq hq=> ?_⟩
 rw [show spl _ _=WL from wl_spl]
 have s1:Same H (upd H q (.lst (WL.map V.str))):=qg hq _;have eq:(upd H q (.lst (WL.map V.str))) q=u_ (.lst (WL.map V.str)):=qh;generalize upd H q (.lst (WL.map V.str))=H1 at s1 eq⊢;have P1:=hP.same s1;refine⟨0,p,(24),1,P1,(),(),λd H2 d0 d1 P2 K2=> ?_⟩
 obtain⟨v,hv⟩:=YR (xs:=WL.map V.str) d0 (by show d<24;exact d1)
 erw[Ab.mp (JC hv),z,hz,rfl];exists q,_,d,0,1,SqL.of (K2 _ _ eq (P1.ne_strs eq)),hv;have aa:=wl_ok z hz;have ak:Kept p H H2:=(Kept.of s1).trans K2;clear K2 hv hz eq P1 s1 hq;refine⟨(3),1,(),(),λD hD=> ?_⟩
 refine J1 (lo:=0) (tl:= [u_ (.ref p)]) (λi ys H'=>∃bs:oj Str,ys=bs.map V.str/\bs.length=i/\(∀b∈bs,Wd 1 b)/\PotQ H' p/\(∀b o,H2 b=u_ o->b≠p->H' b=u_ o)) (yq ()) ⟨[],1,1,λb hb=>by simp at hb,P2.same (qg hD _),λb o e _=>qg hD _ _ _ e⟩ ?_ ?_
 ·rintro j ys H' hj ⟨bs,rfl,ac,U,P',K'⟩ ad O R hR;refine⟨0,p,(5),1,P',(),(),λd3 H4 e0 e1 P4 K4=> ?_⟩
  erw[abc_at e0 e1,c,hc,ao];exists "abcdh",d3,c,1,1,(),hc
  have nD:D≠p:=(P2.free hD).symm;refine hR _ H4 (K4 _ _ ad nD) ⟨bs++ [⟨#[c]⟩],by rw [Vc];rfl,by rw [uu,ac];rfl,λb hb=> ?_,?_,λb o e np=> ?_⟩
  ·rcases Aa.mp hb with h|h
   ·exact U b h
   ·rw [vg] at h;subst h;exact ao
  ·erw[P4,x,e2,h2];exact⟨x,by rwa [qi nD.symm],h2⟩
  ·rw [qi (qk e hD)];exact K4 _ _ (K' b o e np) np
 ·rintro ys H' ⟨bs,rfl,ac,U,P',K'⟩ ad;obtain⟨x1,x2,x3,rfl⟩:∃x1 x2 x3,bs= [x1,x2,x3]:=by
   match bs,ac with
   | [x1,x2,x3],_=>exact⟨x1,x2,x3,1⟩
  have h1:Wd 2 x1:=⟨(U x1 (by simp)).1,by have:=(U x1 (by simp)).2;omega⟩
  have h2:Wd 2 x2:=⟨(U x2 (by simp)).1,by have:=(U x2 (by simp)).2;omega⟩
  have h3:Wd 2 x3:=⟨(U x3 (by simp)).1,by have:=(U x3 (by simp)).2;omega⟩
  have KD:Kept p H H':=λb o e np=>K' b o (ak b o e np) np;exists D,0,SqL.of ad,1,_,0,_,0,_,0,1;clear K' ak P2 U ac ad;refine⟨0,0,_,0,1,0,0,p,many,1,P',(),(),λd5 H5 f0 f1 P5 K5=>⟨_,0,1,_,0,?_⟩⟩
  obtain⟨j,ej,ap,aq⟩:∃j:Int,j=(if(i:Int)+5+d5<(many:Int) then(i:Int)+5+d5 else(many:Int))/\1<=j/\j<=12:=⟨0,by split<;>omega,by split<;>omega⟩
  rw [<-ej];obtain⟨jn,rfl⟩:∃n:Nat,j=(n:Int):=[j.toNat:()]
  have al:=num_ok jn ()
  have h4:Wd 2 (Vh ((jn:Nat):Int):Str):=al;have af:((jn:Nat):Int).natAbs.log2<1920:=by have:=V2 ((jn:Nat):Int).natAbs;omega
  exists 0,af;have ag:Kept p H H5:=KD.trans K5;have au:=ag _ _ hL (hP.ne_strs hL);have fin:∀(y:Str) (H':Hp),Wd 20 y->Same H5 H'->Q (.str y) H':=λy H' O s'=>k y H' O (P5.same s') (ag.trans (Kept.of s'));have two:(2:Nat)<=sizeLine:=by decide
  have bl:Wd 1 " ":=[():uh _]
  have fz:∀{n m:Nat}{x y:Str},Wd n x->Wd m y->n+m<=100->x.length+y.length<=sizeLine:=λhx O h=>fits (by have:=hx.2;have:=O.2;omega)
  have tx:Wd 5 "text ":=[():uh _]
  have go:Wd 3 "go ":=[():uh _]
  clear al ap aq af ej;refine⟨0,1,0,ite2 (λ_=> ?_) (λ_=> ?_)⟩
  ·have w1:=tx.cat h1 (k:=7) ()
   have w2:=w1.cat bl (k:=8) ()
   refine⟨0,_,0,1,fz tx h1 (),_,0,1,fz w1 bl (),0,0,p,L,zs,1,P5,au,hN,λy H6 O P6 K6=> ?_⟩
   exact⟨_,0,1,fz w2 O (),k _ H6 (w2.cat O ()) P6 (ag.trans K6)⟩
  refine[0:two:λl1 aw=>⟨l1,0,.inl (SqL.of qh),1,1,0,?_⟩];have ae:=qg aw (.lst ([.str "self",.str "say"]:oj V));refine ite2 (λ_=> ?_) (λ_=> ?_)
  ·have w1:=aa.cat bl (k:=6) ()
   exact⟨0,_,0,1,fz aa bl (),0,_,0,1,fz w1 h1 (),fin _ _ (w1.cat h1 ()) ae⟩
  refine⟨0,1,0,ite2 (λ_=> ?_) (λ_=> ?_)⟩
  ·exact⟨0,fin _ _ ⟨aa.1,by have:=aa.2;omega⟩ ae⟩
  refine⟨0,1,0,ite2 (λ_=> ?_) (λ_=> ?_)⟩
  ·exact⟨0,_,0,1,fz go h4 (),fin _ _ (go.cat h4 ()) ae⟩
  refine[0:two:λl2 ax=>⟨l2,0,.inl (SqL.of qh),1,1,0,?_⟩];have ah:=ae.trans (qg ax (.lst ([.str "none",.str "rowed"]:oj V)));refine ite2 (λ_=> ?_) (λ_=> ?_)
  ·exists 1,0,0,0;exact joins (l:= [x1,Vh ((jn:Nat):Int)]) (by simp) aa (λy O=>by simp at O;rcases O with rfl|rfl<;>assumption) λy H' O s'=>fin y H' O (ah.trans s')
  refine⟨0,1,0,ite2 (λ_=> ?_) (λ_=> ?_)⟩
  ·exists 1,0,0,0,0;exact joins (l:= [x1,x2,Vh ((jn:Nat):Int)]) (by simp) aa (λy O=>by simp at O;rcases O with rfl|rfl|rfl<;>assumption) λy H' O s'=>fin y H' O (ah.trans s')
  refine[0:two:λl3 ay=>⟨l3,0,.inl (SqL.of qh),1,1,0,?_⟩];have am:=ah.trans (qg ay (.lst ([.str "cut",.str "glue"]:oj V)));refine ite2 (λ_=> ?_) (λ_=> ?_)
  ·exists 1,0,0,0,0;exact joins (l:= [x1,x2,x3]) (by simp) aa (λy O=>by simp at O;rcases O with rfl|rfl|rfl<;>assumption) λy H' O s'=>fin y H' O (am.trans s')
  ·exists 1,0,0,0;exact joins (l:= [x1,x2]) (by simp) aa (λy O=>by simp at O;rcases O with rfl|rfl<;>assumption) λy H' O s'=>fin y H' O (am.trans s')
noncomputable def TrOk (d:D):Prop:=isT d=v_/\lw d=v_/\sz d<=300
inductive sp_tre (vs:List V) (H:Hp) (Q:VK) (E_:XK):Prop
 |mk (p L:Addr) (zs:List Str) (_:vs= [.ref p,.ref L]) (_:PotQ H p) (_:H L=u_ (.lst (zs.map V.str))) (_:Nm4 zs) (_:∀(v:V) (d:D) (H':Hp),TrOk d->Is H' d v->PotQ H' p->Kept p H H'->Q v H')
theorem IsL.ofStrz {H:Hp}:∀{l:oj Str},(∀z∈l,z.length<=1000)->L2.IsL H (l.map D.str) (l.map V.str)
 | [],_=>rfl
 |z::r,h=>⟨_,0,[1:yq (h z uf)],IsL.ofStrz λy O=>h y (ue _ O)⟩
theorem szL_strs {n:Nat}:∀{l:oj Str},(∀z∈l,z.length<=n)->szL (l.map D.str)<=l.length*(n+1)
 | [],_=>by simp [szL]
 |z::r,h=>by
  have:=szL_strs (n:=n) λy O=>h y (ue (a:=y) z O);have:=h z uf;simp only [uq,szL,sz,ui,R1,rX];omega
theorem lw_strs:∀{l:oj Str},(∀z∈l,jY z=v_)->lwL (l.map D.str)=v_
 | [],_=>rfl
 |z::r,h=>by
  rw [uq,lwL,lw_strs λy O=>h y (ue _ O),Ug];exact h z uf
theorem dp_strs:∀l:oj Str,dpL (l.map D.str)<=1
 | []=>by simp [dpL]
 |z::r=>by have:=dp_strs r;simp only [uq,dpL,dp];omega
theorem good_strs:∀{l:oj Str},(∀z∈l,Wd 300 z)->goodL (l.map D.str)=v_
 | [],_=>rfl
 |z::r,h=>by
  rw [uq,goodL,good_strs λy O=>h y (ue _ O),Ug];show Qp z=v_;unfold Qp;have:=h z uf;rw [ub this.2];exact this.1
theorem tr_str (h:Wd 20 z):TrOk (.str z):=⟨isT_short h.1 (by have:=h.2;omega),h.1,by simp only [sz];have:=h.2;omega⟩
theorem tr_row (hl:l.length<=14)(h:∀z∈l,Wd 20 z):TrOk (.tup (l.map D.str)):=by
 have h1:=szL_strs λz O=>(h z O).2;have h2:=dp_strs l;have h3:=good_strs λz O=>(⟨(h z O).1,by have:=(h z O).2;omega⟩:Wd 300 z)
 have e:sz (.tup (l.map D.str))<=300:=by simp only [sz];omega
 refine⟨?_,by simpa only [lw] using lw_strs λz O=>(h z O).1,e⟩
 have U:dp (.tup (l.map D.str))<=12:=by simp only [dp];omega
 unfold isT;rw [ub (show sz (.tup (l.map D.str))<=600 by omega),ub U]
 simp only [good];rw [h3,ua,ub (show l.length<=40 by omega)]
 rfl
theorem Wb {t:o3}(h:∀z∈l,Wd 20 z)(O:H t=U_):Is (upd H t (.tup (l.map V.str))) (.tup (l.map D.str)) (.ref t):=
 Is.new (IsL.ofStrz λz U=>by have:=(h z U).2;omega) O
noncomputable def MKL (z:Str):oj Str:= ["row h","text b "++z,"ask c b","text a text d ","join a c","put h a","text a ask e d","put h a","text a say e","put h a","say h"]
theorem mkl_ok (h:Wd 4 z):∀y∈MKL z,Wd 20 y:=by
 have O:∀y∈(["row h","ask c b","text a text d ","join a c","put h a","text a ask e d","put h a","text a say e","put h a","say h"]:oj Str),jY y=v_/\y.length<=20:=by decide+kernel
 intro y U;rcases A8.mp U with rfl|U
 ·exact O _ (by simp)
 ·rcases A8.mp U with rfl|U
  ·exact Wd.cat (n:=7) (m:=4) [():uh _] h ()
  ·exact O y (ue _ U)
theorem ok_maker (T:Tx K mg a):#[K,2,a.ZT,a.wF,["pot","names"],sp_tre]:=by
 have qQ:=#[jK,T];exists 9,T.g_law_maker,YX
 erw[h,p,L,zs,rfl,hP,hL,hN,k];have ac:=hN.1;have ad:=hN.2.1;exists _,%[#[qC,(2),YX.nd,#[qH,yK,pv 1,#[qw,qQ,T.g_law_take,#v[pv 0,#[qx,qM,T.yt,uG,#v[pv 1]]]]]],#[qC,(3),YX.nd,#[QT,#v[qm,#[qY,Qf,qm,pv 2],qm,qm,qm,qm]]],#[qC,(3),YX.nd,#[qY,op_cat,pv 3,#[QT,#v[qm,qm,qm,qm,qm]]]]|#[qt,#[qZ,Qg,T.QN,vx,#v[pv 3]]]]
 exists 7
 have aa:=hP.ne_strs hL;refine⟨0,0,0,L,0,.inl (SqL.of hL),p,0,hP,by rw [ua];omega,by rw [ua];omega,λd1 H1 a0 a1 P1 K1=> ?_⟩
 erw[YR (xs:=zs.map V.str) a0 a1,v,hv];erw[Ab.mp (JC hv),z,hz,rfl];have O:Wd 4 z:=[nm_all (hN.2.2 z hz).1:(hN.2.2 z hz).2];exists L,_,_,0,1,SqL.of (K1 _ _ hL aa),hv;have e7:("text b ":Str).length=7:=by decide+kernel
 refine⟨0,_,0,1,fits (by have:=O.2;omega),(sml rfl),λU h1=> ?_⟩
 have q1:=qg h1 (.lst (((MKL z).take 6).map V.str));have e1:(upd H1 U (.lst (((MKL z).take 6).map V.str))) U=u_ (.lst (((MKL z).take 6).map V.str)):=qh;show tSeq _ _ _ _ (upd H1 U (.lst (((MKL z).take 6).map V.str)));generalize upd H1 U (.lst (((MKL z).take 6).map V.str))=H2 at q1 e1⊢;refine[0:(sml rfl):λl2 h2=> ?_];have q2:=qg h2 (.lst (((MKL z).drop 6).map V.str));refine⟨U,l2,_,0,1,q2 _ _ e1,qh,fits (by show 6+5<=16000000;decide),λl3 h3=> ?_⟩
 have q3:=q2.trans (qg h3 (.lst ((MKL z).map V.str)));refine⟨0,l3,(MKL z).map V.str,1,.inl [SqL.of qh:λt ht=> ?_]⟩;have q4:=qg ht (.tup ((MKL z).map V.str));exact k _ _ _ (tr_row (by show 11<=14;decide) (mkl_ok O)) (Wb (mkl_ok O) ht) ((P1.same q1).same (q3.trans q4)) (K1.trans (Kept.of (q1.trans (q3.trans q4))))
theorem ok_rule (T:Tx K mg a):#[K,4,a.WT,a.ke,["pot","names"],sp_tre]:=by
 have qQ:=#[jK,T];have QU:=#[ok_word,T];have O:=#[ok_line,T];exists 9,T.g_law_rule,ju
 erw[h,p,L,zs,rfl,hP,hL,hN,k];exists _,%[#[qC,(2),ju.nd,#[qY,yx,ql,#[qw,qQ,T.g_law_take,#v[pv 0,ql]]]],#[qC,2,(3),4,ju.nd,rfl,V_ rfl,#[qY,yx,pv 2,ql],_,_],#[qC,(4),ju.nd,#[QT,#v[#[qY,Qf,qm,#[qw,QU,T.g_law_word,#v[pv 0,pv 1]]],#[qY,Qf,qm,#[qw,QU,T.g_law_word,#v[pv 0,pv 1]]],qm]]],#[qV,#[jh,uR,PySem.F.slot_list_extend,PySem.F.type_list_extend,mt_extend,pv 4,#v[#[zI,["k","pot","names","many"],[0,1,3],lcsN (qj J6) ["pot","names","body","many","lines"],#[jj,#v[pv 2]],(λ_ _ _ _ _ _=>#[qT,(0),(show Vp (["k","pot","names","many"]:oj Str) by decide+kernel)]),(λ_ _ _ _ _ _=>#[qw,O,T.g_law_line,#v[pv 1,pv 2,pv 3,pv 0]])]]]]|#[qt,#[qZ,Qg,T.QN,vx,#v[#[qY,op_cat,pv 4,#[QT,#v[#[qY,Qf,qm,#[qH,ix_str,qm,#[qw,qQ,T.g_law_take,#v[pv 0,ql]]]]]]]]]]]
 exists 7
 refine⟨0,p,(8),1,hP,(),(),λd1 H1 a0 a1 P1 K1=>⟨_,0,1,?_⟩⟩
 obtain⟨nb,ak,aH,aI⟩:∃nb:Nat,1+d1=(nb:Int)/\1<=nb/\nb<=8:=⟨(1+d1).toNat,(),(),()⟩
 have ac:=K1 _ _ hL (hP.ne_strs hL);dsimp only;rw [ak];clear ak a0 a1;exists 0,_,0,1;have ta:Wd 7 "text a ":=[():uh _]
 have tb:Wd 7 "text b ":=[():uh _]
 have fz:∀{n m:Nat}{x y:Str},Wd n x->Wd m y->n+m<=100->x.length+y.length<=sizeLine:=λhx U h=>fits (by have:=hx.2;have:=U.2;omega)
 refine⟨0,0,p,L,zs,1,P1,ac,hN,λz1 H5 al P5 K5=>⟨_,0,1,fz ta al (),?_⟩⟩
 have ad:=K5 _ _ ac (P1.ne_strs ac);refine⟨0,0,p,L,zs,1,P5,ad,hN,λz2 H6 am P6 K6=>⟨_,0,1,fz tb am (),(sml rfl),λl hl=> ?_⟩⟩
 have aw:=K6 _ _ ad (P5.ne_strs ad);have ao:Kept p H H6:=(K1.trans K5).trans K6;have s7:=qg hl (.lst (["text a "++z1,"text b "++z2,"row h"].map V.str));have e7:(upd H6 l (.lst (["text a "++z1,"text b "++z2,"row h"].map V.str))) l=u_ (.lst (["text a "++z1,"text b "++z2,"row h"].map V.str)):=qh;have P7:=P6.same s7;have ae:=s7 _ _ aw;have K7:Kept p H (upd H6 l (.lst (["text a "++z1,"text b "++z2,"row h"].map V.str))):=ao.trans (Kept.of s7);have aa:∀y∈(["text a "++z1,"text b "++z2,"row h"]:oj Str),Wd 20 y:=λy U=>by
  simp only [uz,uD,uM] at U;rcases U with rfl|rfl|rfl
  ·exact ta.cat al ()
  ·exact tb.cat am ()
  ·exact[():()]
 show tSeq _ _ _ _ (upd H6 l (.lst (["text a "++z1,"text b "++z2,"row h"].map V.str)));generalize upd H6 l (.lst (["text a "++z1,"text b "++z2,"row h"].map V.str))=H7 at e7 P7 ae K7⊢;have ax:(["text a "++z1,"text b "++z2,"row h"]:oj Str).length=3:=rfl;generalize (["text a "++z1,"text b "++z2,"row h"]:oj Str)=th at e7 aa ax⊢;exists 0,.inl [1:_:SqL.of e7];refine⟨0,nb,1,(),(),λD hD=> ?_⟩
 have nD:D≠p:=(P7.free hD).symm;have nl:l≠p:=P7.ne_strs e7;refine J1 (lo:=0) (n:=nb) (tl:= [u_ (.ref p),u_ (.ref L),u_ (.int ((nb:Int)+4))]) (λi ys H'=>∃rs:oj Str,ys=rs.map V.str/\rs.length=i/\(∀r∈rs,Wd 20 r)/\PotQ H' p/\(∀b o,H7 b=u_ o->b≠p->H' b=u_ o)) (yq ()) ⟨[],1,1,λb hb=>by simp at hb,P7.same (qg hD _),λb o e _=>qg hD _ _ _ e⟩ ?_ ?_
 ·rintro j ys H' hj ⟨rs,rfl,ap,af,P',K'⟩ ag U R hR;have ay:=K' _ _ ae (P7.ne_strs ae);refine⟨0,0,0,0,p,L,zs,nb+4,j,?_,P',ay,hN,(),(),(),λr H8 aA P8 K8=> ?_⟩
  ·rw [show(0:Int)+(j:Int)=(j:Int) by omega,show((nb+4:Nat):Int)=(nb:Int)+4 by omega]
   rfl
  ·refine hR _ H8 (K8 _ _ ag nD) ⟨rs++ [r],by rw [Vc];rfl,by rw [uu,ap];rfl,λb hb=> ?_,?_,λb o e np=> ?_⟩
   ·rcases Aa.mp hb with h|h
    ·exact af b h
    ·rw [vg] at h;subst h;exact aA
   ·erw[P8,x,e2,h2];exact⟨x,by rwa [qi nD.symm],h2⟩
   ·rw [qi (qk e hD)];exact K8 _ _ (K' b o e np) np
 ·rintro ys H' ⟨rs,rfl,ap,af,P',K'⟩ ag;have e8:=K' _ _ e7 nl;refine⟨l,D,_,0,1,e8,ag,fits (by rw [ua,ua];omega),?_⟩
  have e9:(upd H' l (.lst (th.map V.str++rs.map V.str))) l=u_ (.lst ((th++rs).map V.str)):=by rw [qh,Vc]
  have P9:PotQ (upd H' l (.lst (th.map V.str++rs.map V.str))) p:=by
   erw[P',x,e2,h2];exact⟨x,by rwa [qi nl.symm],h2⟩
  have K9:Kept p H (upd H' l (.lst (th.map V.str++rs.map V.str))):=λb o e np=>by
   rw [qi (qk (ao b o e np) hl)];exact K' b o (K7 b o e np) np
  generalize upd H' l (.lst (th.map V.str++rs.map V.str))=H9 at e9 P9 K9⊢;refine⟨0,0,p,(5),1,P9,(),(),λd9 aJ g0 g1 aB aq=> ?_⟩
  erw[abc_at g0 g1,c9,hc,aC];have aD:=aq _ _ e9 nl;refine⟨"abcdh",d9,c9,1,1,(),hc,_,0,1,(by show("say ":Str).length+1<=Vb;decide+kernel),(sml rfl),λq1 aE=> ?_⟩
  have au:=qg aE (.lst [.str ("say "++⟨#[c9]⟩)]);have hw:Wd 20 ("say "++⟨#[c9]⟩:Str):=Wd.cat (n:=4) (m:=1) [():uh _] aC ()
  refine⟨l,q1,_,0,1,au _ _ aD,qh,fits (by rw [ua,uu];show _+1<=_;omega),λq2 aF=> ?_⟩
  have aG:=au.trans (qg aF (.lst ((th++rs).map V.str++ [.str ("say "++⟨#[c9]⟩)])));refine[q2:0:.inl [SqL.of qh:λt ht=> ?_]];have ah:=aG.trans (qg ht (.tup ((th++rs).map V.str++ [.str ("say "++⟨#[c9]⟩)])));have all:∀y∈th++rs++ [("say "++⟨#[c9]⟩:Str)],Wd 20 y:=λy U=>by
   rcases Aa.mp U with U|U
   ·rcases Aa.mp U with U|U
    ·exact aa y U
    ·exact af y U
   ·cases A9.mp U;exact hw
  have em:(th++rs).map V.str++ [.str ("say "++⟨#[c9]⟩)]=(th++rs++ [("say "++⟨#[c9]⟩:Str)]).map V.str:=by rw [Vc (l₁:=th++rs)];rfl
  rw [em] at ah ht⊢;refine k _ _ _ (tr_row (l:=th++rs++ [("say "++⟨#[c9]⟩:Str)]) (by simp only [uu,vo];omega) all) (Wb all ht) (aB.same ah) ((K9.trans aq).trans (Kept.of ah))
theorem tr_three {y:Str}(O:Wd 20 z)(U:Wd 20 y):TrOk (.tup [.tup [.str z,.tup []],.str y]):=by
 have h1:=O.2;have h2:=U.2;have g1:Qp z=true:=by unfold Qp;rw [ub (show z.length<=300 by omega)];exact O.1
 have g2:Qp y=true:=by unfold Qp;rw [ub (show y.length<=300 by omega)];exact U.1
 have e:sz (.tup [.tup [.str z,.tup []],.str y])<=300:=by simp only [sz,szL];omega
 refine⟨?_,by simp [lw,lwL,O.1,U.1],e⟩
 unfold isT;rw [ub (show sz (.tup [.tup [.str z,.tup []],.str y])<=600 by omega),ub (show dp (.tup [.tup [.str z,.tup []],.str y])<=12 by simp only [dp,dpL];omega)]
 simp [good,goodL,g1,g2]
inductive sp_srcd (vs:List V) (H:Hp) (Q:VK) (E_:XK):Prop
 |mk (p L:Addr) (zs:List Str) (_:vs= [.ref p,.ref L]) (_:PotQ H p) (_:H L=u_ (.lst (zs.map V.str))) (_:Nm4 zs) (_:∀(v:V) (d:D) (H':Hp),Wp d->Is H' d v->PotQ H' p->Kept p H H'->Q v H')
theorem tr_src {k:Str}{d:D}(O:k="leaf"∨k="rule")(h:TrOk d):Wp (.tup [.str k,d]):=src_leaf O h.1 h.2.1 h.2.2
theorem src_row {k:Str}{d:D}(O:k="leaf"∨k="rule")(h:TrOk d)(hv:Is H d v)(q:∀t H',Same H H'->Is H' (.tup [.str k,d]) (.ref t)->Wp (.tup [.str k,d])->Q (.ref t) H'): [V.str k,v].length<=Vb/\∀t,H t=U_->Q (.ref t) (upd H t (.tup [.str k,v])):=by
 refine[sml rfl:λt U=>q t _ (qg U _) (Is.new (ds:= [.str k,d]) ⟨_,0,[1:?_],_,0,hv,1⟩ U) (tr_src O h)];rcases O with rfl|rfl<;>decide+kernel
theorem ok_leaf (T:Tx K mg a):#[K,5,a.WW,a.WI,["pot","names"],sp_tre]:=by
 have qQ:=#[jK,T];have QU:=#[ok_word,T];have zj:=#[ok_rule,T];exists 9,T.g_law_leaf,wb
 erw[h,p,L,zs,rfl,hP,hL,hN,k];have aa:∀{z:Str},Wd 4 z->Wd 20 z:=λh=>⟨h.1,by have:=h.2;omega⟩
 exists _,%[#[qC,(2),wb.nd,#[qw,qQ,T.g_law_take,#v[pv 0,ql]]],#[qI,#[qq,op_lt,pv 2,ql],%[|#[qt,#[qw,QU,T.g_law_word,#v[pv 0,pv 1]]]],qv],#[qI,#[qq,Qs,pv 2,ql],%[|#[qt,#[qZ,Qg,T.QN,vx,#v[#[zI,["k","pot","names"],[0,1],lcsN (qj J0) ["pot","names","kind"],#[jj,#v[#[qw,qQ,T.g_law_take,#v[pv 0,ql]]]],(λ_ _ _ _ _ _=>#[qT,(0),(show Vp (["k","pot","names"]:oj Str) by decide+kernel)]),(λ_ _ _ _ _ _=>#[qw,QU,T.g_law_word,#v[pv 1,pv 2]])]]]]],qv],#[qI,#[qq,Qs,pv 2,ql],%[|#[qt,#[qE,#v[#[qE,#v[#[qw,QU,T.g_law_word,#v[pv 0,pv 1]],#[qE,qd]]],#[qw,QU,T.g_law_word,#v[pv 0,pv 1]]]]]],qv],#[qI,#[qq,Qs,pv 2,ql],%[|#[qt,#[qw,zj,T.g_law_rule,#v[pv 0,pv 1]]]],qv]|#[qt,#[qE,#v[#[qY,Qf,qm,#[qw,QU,T.g_law_word,#v[pv 0,pv 1]]],qm,qm]]]]
 exists 7
 refine⟨0,p,(6),1,hP,(),(),λd1 H1 a0 a1 P1 K1=> ?_⟩
 have O:=K1 _ _ hL (hP.ne_strs hL);refine⟨0,_,0,1,0,ite2 (λ_=> ?_) (λ_=> ?_)⟩
 ·exact⟨0,0,p,L,zs,1,P1,O,hN,λz H2 hz U K2=>k _ _ H2 (tr_str (aa hz)) ⟨1,fits (by have:=hz.2;omega)⟩ U (K1.trans K2)⟩
 refine⟨0,1,0,ite2 (λ_=> ?_) (λ_=> ?_)⟩
 ·refine⟨0,p,(4),1,P1,(),(),λd2 H2 b0 b1 U K2=> ?_⟩
  have ac:=K2 _ _ O (P1.ne_strs O);obtain⟨n,rfl,hn⟩:∃n:Nat,d2=(n:Int)/\n<4:=[d2.toNat:():()]
  refine⟨n,1,(),(),λD hD=> ?_⟩
  have nD:D≠p:=(U.free hD).symm;refine J1 (lo:=0) (n:=n) (tl:= [u_ (.ref p),u_ (.ref L)]) (λi ys H'=>∃rs:oj Str,ys=rs.map V.str/\rs.length=i/\(∀r∈rs,Wd 20 r)/\PotQ H' p/\(∀b o,H2 b=u_ o->b≠p->H' b=u_ o)) (yq ()) ⟨[],1,1,λb hb=>by simp at hb,U.same (qg hD _),λb o e _=>qg hD _ _ _ e⟩ ?_ ?_
  ·rintro j ys H' hj ⟨rs,rfl,af,ad,P',K'⟩ ae hy R hR;have ao:=K' _ _ ac (U.ne_strs ac);refine⟨0,0,p,L,zs,1,P',ao,hN,λr H8 ap P8 K8=> ?_⟩;refine hR _ H8 (K8 _ _ ae nD) ⟨rs++ [r],by rw [Vc];rfl,by rw [uu,af];rfl,λb hb=> ?_,?_,λb o e np=> ?_⟩
   ·rcases Aa.mp hb with h|h
    ·exact ad b h
    ·rw [vg] at h;subst h;exact aa ap
   ·erw[P8,x,e2,h2];exact⟨x,by rwa [qi nD.symm],h2⟩
   ·rw [qi (qk e hD)];exact K8 _ _ (K' b o e np) np
  ·rintro ys H' ⟨rs,rfl,af,ad,P',K'⟩ ae;refine[D:0:.inl [SqL.of ae:λt ht=> ?_]];have s3:=qg ht (.tup (rs.map V.str));exact k _ _ _ (tr_row () ad) (Wb ad ht) (P'.same s3) (λb o e np=>s3 _ _ (K' b o ((K1.trans K2) b o e np) np))
 refine⟨0,1,0,ite2 (λ_=> ?_) (λ_=> ?_)⟩
 ·refine⟨0,0,p,L,zs,1,P1,O,hN,λz1 H2 ag U K2=>[uN _:λt0 ah=>[sml rfl:λt1 ak=> ?_]]⟩;have ac:=K2 _ _ O (P1.ne_strs O);have s0:=qg ah (.tup ([]:oj V));have s1:=s0.trans (qg ak (.tup [.str z1,.ref t0]));have i0:Is (upd H2 t0 (.tup [])) (.tup []) (.ref t0):=Is.new (ds:= []) rfl ah;have i1:Is (upd (upd H2 t0 (.tup [])) t1 (.tup [.str z1,.ref t0])) (.tup [.str z1,.tup []]) (.ref t1):=Is.new (ds:= [.str z1,.tup []]) ⟨_,0,⟨1,fits (by have:=ag.2;omega)⟩,_,0,i0,1⟩ ak
  generalize upd (upd H2 t0 (.tup [])) t1 (.tup [.str z1,.ref t0])=H3 at s1 i1⊢;have P3:=U.same s1;refine⟨0,0,p,L,zs,1,P3,s1 _ _ ac,hN,λz2 H4 al P4 K4=>[sml rfl:λt2 am=> ?_]⟩;have s2:=qg am (.tup [.ref t1,.str z2]);refine k _ _ _ (tr_three (aa ag) (aa al)) (Is.new (ds:= [.tup [.str z1,.tup []],.str z2]) ⟨_,0,i1.mono (P3.tk P4 K4),_,0,⟨1,fits (by have:=al.2;omega)⟩,1⟩ am) (P4.same s2) ((((K1.trans K2).trans (Kept.of s1)).trans K4).trans (Kept.of s2))
 refine⟨0,1,0,ite2 (λ_=> ?_) (λ_=> ?_)⟩
 ·exact⟨0,0,p,L,zs,1,P1,O,hN,λv d H2 hd hv U K2=>k v d H2 hd hv U (K1.trans K2)⟩
 ·have ta:Wd 7 "text a ":=[():uh _]
  refine⟨0,0,p,L,zs,1,P1,O,hN,λz H2 hz U K2=>⟨_,0,1,fits (by have:=hz.2;have:=ta.2;omega),sml rfl,λt ht=> ?_⟩⟩
  have all:∀y∈(["text a "++z,"ask b a","say b"]:oj Str),Wd 20 y:=λy hy=>by
   simp only [uz,uD,uM] at hy;rcases hy with rfl|rfl|rfl
   ·exact ta.cat hz ()
   ·exact[():()]
   ·exact[():()]
  have s2:=qg ht (.tup ((["text a "++z,"ask b a","say b"]:oj Str).map V.str));exact k _ _ _ (tr_row (by show 3<=14;decide) all) (Wb all ht) (U.same s2) ((K1.trans K2).trans (Kept.of s2))
theorem ok_srcd (T:Tx K mg a):#[K,6,a.Zj,a.zO,["pot","names"],sp_srcd]:=by
 have qQ:=#[jK,T];have WP:=#[ok_leaf,T];have zj:=#[ok_rule,T];have O:=#[ok_maker,T];exists 9,T.g_law_source,XU
 erw[h,p,L,zs,rfl,hP,hL,hN,k];have ae:=hN.1;have af:=hN.2.1;exists _,%[#[qC,(2),XU.nd,#[qw,qQ,T.g_law_take,#v[pv 0,ql]]],#[qI,#[qq,op_lt,pv 2,ql],%[|#[qt,#[qE,#v[qm,#[qw,WP,T.g_law_leaf,#v[pv 0,pv 1]]]]]],qv],#[qI,#[qq,op_lt,pv 2,ql],%[|#[qt,#[qE,#v[qm,#[qw,zj,T.g_law_rule,#v[pv 0,pv 1]]]]]],qv],#[qI,#[qq,Qs,pv 2,ql],%[|#[qt,#[qE,#v[qm,#[qw,O,T.g_law_maker,#v[pv 0,pv 1]]]]]],qv],@qI _ _ _ _ _ _ _ _ #[wy,#[qq,Qs,pv 2,ql],#[zA,#[qq,Qs,#[qw,qQ,T.g_law_take,#v[pv 0,ql]],ql]]].pt %[|#[qt,#[qE,#v[qm,#[qw,WP,T.g_law_leaf,#v[pv 0,pv 1]]]]]] qv|#[qt,#[qE,#v[qm,#[qH,yK,pv 1,#[qw,qQ,T.g_law_take,#v[pv 0,#[qx,qM,T.yt,uG,#v[pv 1]]]]]]]]]
 exists 7
 refine⟨0,p,(10),1,hP,(),(),λd1 H1 a0 a1 P1 K1=> ?_⟩
 have aa:=K1 _ _ hL (hP.ne_strs hL);have fin:∀{H3 H2:Hp}{kk:Str}{d:D}{v:V},PotQ H3 p->Kept p H H3->kk="leaf"∨kk="rule"->TrOk d->Is H2 d v->PotQ H2 p->Kept p H3 H2-> [V.str kk,v].length<=Vb/\∀t,H2 t=U_->Q (.ref t) (upd H2 t (.tup [.str kk,v])):=λ{H3 H2 kk d v} P3 K3 hk hd U P2 K2=>
  src_row hk hd U λt H4 s4 i4 o4=>k _ _ H4 o4 i4 (P2.same s4) ((K3.trans K2).trans (Kept.of s4))
 refine⟨0,_,0,1,0,ite2 (λ_=> ?_) (λ_=> ?_)⟩
 ·exact⟨0,0,p,L,zs,1,P1,aa,hN,λv d H2 hd U P2 K2=>fin P1 K1 (.inl rfl) hd U P2 K2⟩
 refine⟨0,_,0,1,0,ite2 (λ_=> ?_) (λ_=> ?_)⟩
 ·exact⟨0,0,p,L,zs,1,P1,aa,hN,λv d H2 hd U P2 K2=>fin P1 K1 (.inr rfl) hd U P2 K2⟩
 refine⟨0,1,0,ite2 (λ_=> ?_) (λ_=> ?_)⟩
 ·exact⟨0,0,p,L,zs,1,P1,aa,hN,λv d H2 hd U P2 K2=>fin P1 K1 (.inr rfl) hd U P2 K2⟩
 show tSeq _ _ _ _ H1;refine qD λN0 n0=>n0 _ _ ?_;exists 8,BB,bb;have made:∀{H3:Hp},PotQ H3 p->Kept p H H3->BB [u_ (V.ref p),u_ (V.ref L),u_ (V.int d1)] H3:=by
  intro H3 P3 K3;refine bb _ _ ?_;have ac:=K3 _ _ hL (hP.ne_strs hL);refine⟨0,0,0,L,0,.inl (SqL.of ac),p,0,P3,by rw [ua];omega,by rw [ua];omega,λd2 H4 b0 b1 P4 K4=> ?_⟩
  erw[YR (xs:=zs.map V.str) b0 b1,v,U];erw[Ab.mp (JC U),z,hz,rfl];refine⟨L,_,_,0,1,SqL.of (K4 _ _ ac (P3.ne_strs ac)),U,sml rfl,λt ht=> ?_⟩;have s4:=qg ht (.tup [.str "made",.str z]);have ad:=hN.2.2 z hz;exact k _ _ _ (src_made ad.1) (Is.new (ds:= [.str "made",.str z]) ⟨_,0,[1:()],_,0,[1:fits ()],1⟩ ht) (P4.same s4) ((K3.trans K4).trans (Kept.of s4))
 refine⟨0,1,0,ite2 (λ_=> ?_) (λ_=> ?_)⟩
 ·refine⟨0,p,(4),1,P1,(),(),λd2 H2 b0 b1 P2 K2=>[1:0:ite2 (λ_=> ?_) (λ_=> ?_)]⟩
  ·exact⟨0,0,p,L,zs,1,P2,K2 _ _ aa (P1.ne_strs aa),hN,λv d H3 hd U P3 K3=>fin P2 (K1.trans K2) (.inr rfl) hd U P3 K3⟩
  ·exact made P2 (K1.trans K2)
 ·exact iteF (made P1 K1)
theorem SqL.keepK {K:o0}{a:o3}(e:∀o,H a=u_ o->H' a=u_ o)(h:SqL K H a xs):SqL K H' a xs:=by
 rcases h with(h|⟨o,h⟩)|h
 ·exact .inl (.inl (e _ h))
 ·exact .inl (.inr [o:e _ h])
 ·exact .inr h
noncomputable def N8:oj Str:= ["a","b1","c/d","e.f","g","h9","k","m/n"]
theorem n8_ok:∀z∈N8,nm z=v_/\z.length<=4:=by decide+kernel
theorem n8_nd:N8.Nodup:=by decide+kernel
theorem cut_take {vs:oj V}:cutV vs U_ (u_ (n:Int))=vs.take n:=by
 unfold cutV;rw [HT.sIx_none,HT.sIx_nat,Hi,Nat.sub_zero];rcases tF n vs.length with h|h
 ·rw [TF h]
 ·rw [Nat.min_eq_right h,vc (uh _),vc h]
theorem ints_of {ns:oj Int}:∀{ys:oj V},(∀y∈ys,y∈ns.map V.int)->∃O:oj Int,ys=O.map V.int
 | [],_=>[[]:1]
 |y::r,h=>by
  erw[Ab.mp (h y uf),i,_,e];obtain⟨O,U⟩:=ints_of (ys:=r) λz hz=>h z (ue _ hz);exact⟨i::O,by rw [U,<-e];rfl⟩
theorem sq_sm {K:o0}(h:SqL K H q xs)(s:Same H H'):SqL K H' q xs:=SqL.keepK (λo e=>s _ _ e) h
noncomputable def strI (i:Int):Str:=Vh i
noncomputable def nK (k:Nat):Str:="n"++strI (8+(k:Int))
theorem nK_ok:∀k:Nat,k<52->nm (nK k)=v_/\(nK k).length<=4:=by decide+kernel
theorem nK_nd:(N8++(Vi 52).map nK).Nodup:=by decide+kernel
noncomputable def ZZ:oj Str:= ["zz"]
theorem zz_ok:nm "zz"=v_/\("zz":Str).length<=4:=by decide+kernel
noncomputable def NmU (zs:oj Str):Prop:=Nm4 zs/\zs.Nodup
theorem n8_take (h1:1<=n)(h2:n<=8):NmU (N8.take n):=by
 have e:(N8.take n).length=n:=by rw [vR];show min n 8=n;omega
 exact[[():():λz O=>n8_ok z (rQ O)]:TH (Rc _ _) n8_nd]
variable {j:Nat}
theorem nK_all (h:j<=52):NmU (N8++(Vi j).map nK):=by
 refine⟨⟨by rw [uu];show 1<=8+_;omega,by rw [uu,ua,H_];show 8+j<=60;omega,λz O=> ?_⟩,TH (pA (FL _) (pf _ (List.range_sublist.mpr h))) nK_nd⟩
 rcases Aa.mp O with h1|h1
 ·exact n8_ok z h1
 ·erw[Ab.mp h1,k,U,rfl];exact nK_ok k (by have:=List.mem_range.mp U;omega)
inductive sp_alln (K:PySem.W.Frag) (vs:List V) (H:Hp) (Q:VK) (E_:XK):Prop
 |mk (q:Addr) (ns:List Int) (_:vs= [.ref q]) (_:SqL K H q (ns.map V.int)) (_:∀(L:Addr) (zs:List Str) (H':Hp),Same H H'->H' L=u_ (.lst (zs.map V.str))->NmU zs->Q (.ref L) H')
inductive sp_link (vs:List V) (H:Hp) (Q:VK) (E_:XK):Prop
 |mk (p L:Addr) (zs:List Str) (j:Int) (_:vs= [.ref p,.ref L,.int j]) (_:0<=j) (_:j<=1000) (_:PotQ H p) (_:H L=u_ (.lst (zs.map V.str))) (_:Nm4 zs) (_:∀(v:V) (d:D) (H':Hp),Wp d->Is H' d v->PotQ H' p->Kept p H H'->Q v H')
inductive sp_lprs (K:PySem.W.Frag) (vs:List V) (H:Hp) (Q:VK) (E_:XK):Prop
 |mk (q:Addr) (ns:List Int) (_:vs= [.ref q]) (_:SqL K H q (ns.map V.int)) (_:∀(L:Addr) (ps:List (Str×D)) (us:List V) (H':Hp),Same H H'->H' L=u_ (.lst us)->L2.IsL H' (ps.map prD) us->PrOk ps->(∀p∈ps,p.1.length<=4)->ps.length<=60->Q (.ref L) H')
inductive sp_drawn (K:PySem.W.Frag) (vs:List V) (H:Hp) (Q:VK) (E_:XK):Prop
 |mk (q:Addr) (ns:List Int) (st:Int) (n:Nat) (_:vs= [.ref q,.int st,.int (n:Int)]) (_:SqL K H q (ns.map V.int)) (_:0<=st) (_:st<1000) (_:n<=100) (_:∀(L:Addr) (zs:List Str) (H':Hp),Same H H'->H' L=u_ (.lst (zs.map V.str))->(∀z∈zs,nm z=v_/\z.length<=4)->Q (.ref L) H')
theorem ok_alln (T:Tx K mg a):#[K,2,a.JQ,a.JN,["script"],(sp_alln K)]:=by
 have kJ:=#[ok_cell,T];exists 9,T.g_law_all_names,Yk
 erw[h,q,ns,rfl,hq,k];have hs:=uB;exists _,%[#[qC,(1),Yk.nd,#[qw,kJ,T.g_law_cell_at,#v[pv 0,ql]]],#[qC,(2),Yk.nd,#[QT,#v[qm,qm,qm,qm,qm,qm,qm,qm]]],#[qI,#[qq,Qs,#[qY,XB,#[qY,op_fdiv,pv 1,ql],ql],ql],%[|#[qt,#[qY,op_cat,pv 2,#[zI,["k"],[],lcs0,#[pi_range2,7,_,T.Jq,#v[ql,#[qY,yx,ql,#[qY,XB,#[qY,op_fdiv,pv 1,ql],ql]]],_,_],(λ_ _ _ _ _ _=>#[qT,(0),(show Vp (["k"]:oj Str) by decide+kernel)]),(λ_ _ _ _ _ _=>#[qY,Qf,qm,#[qZ,Y1,T.zE,UF,#v[pv 0]]])]]]],qv]|#[qt,#[Zx,10,sl_list,pv 2,kz,#[ZK,#[qY,yx,ql,#[qY,XB,pv 1,ql]]]]]]
 exists 7
 exists 8,N1,q1;refine⟨0,q,ns,(0),1,(),hq,λc=>q1 _ _ ?_⟩
 exists 8,N2,q2;refine[sml rfl:λl0 U=>q2 _ _ ?_];have s0:=qg U (.lst (N8.map V.str));have e0:(upd H l0 (.lst (N8.map V.str))) l0=u_ (.lst (N8.map V.str)):=qh;show tSeq _ _ _ _ (upd H l0 (.lst (N8.map V.str)));generalize upd H l0 (.lst (N8.map V.str))=H0 at s0 e0⊢;exists 8,N3,q3;refine⟨0,_,0,1,[():()],_,0,1,(by show(0:Int)<8;decide),1,0,ite2 (λ_=> ?_) (λ_=>q3 _ _ ?_)⟩
 ·have m1:0<=c/64%52/\c/64%52<52:=[Uy _ ():U7 _ ()]
  refine⟨0,0,_,0,1,[():()],_,0,1,(by show(0:Int)<52;decide),_,0,1,_,0,⟨(),(),(),()⟩,λD hD=> ?_⟩
  obtain⟨j,hj,aa⟩:∃j:Nat,(9+c/64%52-8).toNat=j/\j<=52:=[0:()]
  rw [hj];refine J1 (lo:=8) (n:=j) (tl:= []) (λi ys H'=>ys=((Vi i).map nK).map V.str/\Same H0 H') (yq ()) [1:qg hD _] ?_ ?_
  ·rintro i ys H' hi ⟨rfl,s1⟩ O hy R hR;have hn:=nK_ok i ()
   have ac:(8+(i:Int)).natAbs.log2<1920:=Ur (V2 _) ()
   refine⟨0,0,ac,_,0,1,?_,?_⟩
   ·have:=hn.2;rw [<-app_len];exact fits (uI this ())
   ·refine hR _ H' O ⟨?_,λb o e=>by rw [qi (qk e hD)];exact s1 b o e⟩
    rw [tX,Vc,Vc]
    rfl
  ·rintro ys H' ⟨rfl,s1⟩ O;have e1:=s1 _ _ e0;erw[nK_all aa,n1,n2];refine⟨l0,D,_,0,1,e1,O,?_,λt ht=> ?_⟩
   ·rw [ua,ua,<-uu];exact fits (by have:=n1.2.1;omega)
   ·refine k t (N8++(Vi j).map nK) _ ((s0.trans s1).trans (qg ht _)) ?_ [n1:n2];rw [qh,Vc]
 ·have m1:0<=c%8/\c%8<8:=[Uy _ ():U7 _ ()]
  obtain⟨n,hn,ad,ae⟩:∃n:Nat,1+c%8=(n:Int)/\1<=n/\n<=8:=⟨(1+c%8).toNat,(),(),()⟩
  refine⟨0,0,_,0,1,(by show(0:Int)<8;decide),_,0,1,?_⟩
  dsimp only;rw [hn];refine⟨0,l0,0,SqL.of e0,λl hl=> ?_⟩;rw [cut_take,<-List.map_take];exact k l (N8.take n) _ (s0.trans (qg hl _)) qh (n8_take ad ae)
theorem ok_link (T:Tx K mg a):#[K,2,a.W1,a.WV,["pot","names","k"],sp_link]:=by
 have qQ:=#[jK,T];exists 9,T.g_law_link,wY
 erw[h,p,L,zs,j,rfl,ae,af,hP,hL,hN,k];have ad:=hP.ne_strs hL;exists _,%[#[qC,(3),wY.nd,#[qH,yK,pv 1,#[qY,XB,#[qY,yx,#[qY,yx,pv 2,ql],#[qw,qQ,T.g_law_take,#v[pv 0,ql]]],#[qx,qM,T.yt,uG,#v[pv 1]]]]]|#[qt,#[qE,#v[qm,#[qE,#v[#[qY,Qf,qm,pv 3],qm,qm]]]]]]
 exists 7
 refine⟨0,0,_,0,1,0,p,(3),1,hP,(),(),λd1 H1 a0 a1 P1 K1=> ?_⟩
 have U:=K1 _ _ hL ad;have aa:0<((zs.map V.str).length:Int):=by rw [ua];have:=hN.1;omega
 exists _,0,1,0,L,0,.inl (SqL.of U),_,0,1,aa;erw[YR (xs:=zs.map V.str) (i:=(j+1+d1)%((zs.map V.str).length:Int)) (Uy _ ()) (U7 _ aa),x1,ac]
 erw[Ab.mp (JC ac),z,hz,rfl];exists L,_,_,0,1,SqL.of U,ac;have O:=hN.2.2 z hz;have ta:Wd 7 "text a ":=[():uh _]
 have wz:Wd 4 z:=[nm_all O.1:O.2];refine⟨0,_,0,1,fits (by have:=O.2;have:=ta.2;omega),sml rfl,λt ht=> ?_⟩
 have all:∀y∈(["text a "++z,"ask b a","say b"]:oj Str),Wd 20 y:=λy hy=>by
  simp only [uz,uD,uM] at hy;rcases hy with rfl|rfl|rfl
  ·exact ta.cat wz ()
  ·exact[():()]
  ·exact[():()]
 have s2:=qg ht (.tup ((["text a "++z,"ask b a","say b"]:oj Str).map V.str));exact src_row (.inr rfl) (tr_row (by show 3<=14;decide) all) (Wb all ht) λt2 H2 s3 i3 h3=>k _ _ H2 h3 i3 ((P1.same s2).same s3) ((K1.trans (Kept.of s2)).trans (Kept.of s3))
theorem ok_lsrcs (T:Tx K mg a):#[K,7,a.XT,a.Xw,["script"],(sp_lprs K)]:=by
 have Yv:=#[ok_alln,T];have aa:=#[ok_link,T];have qQ:=#[jK,T];have w9:=#[ok_potQ,T];have U:=#[ok_srcd,T];exists 9,T.g_law_sources,QV
 erw[h,q,ns,rfl,hq,k];have hs:=uB;exists _,%[#[qC,(1),QV.nd,#[qw,Yv,T.g_law_all_names,#v[pv 0]]],#[qC,(2),QV.nd,#[QT,qd]],#[YV,#[jj,#v[#[qx,qM,T.yt,uG,#v[pv 1]]]],#[qT,(3),QV.nd],%[#[qC,(4),QV.nd,#[qx,#[call_sumL,1,rfl],T.z_sum,boot_sum,#v[#[pe_stepLV,9,pv 0,#[ZK,#[qY,yx,ql,pv 3]],#[qx,#[call_max2,1,rfl],T.z_max,boot_max,#v[ql,#[qx,qM,T.yt,uG,#v[pv 1]]]],_]]]],#[qC,(5),QV.nd,#[qw,w9,T.g_law_pot,#v[pv 4,pv 3]]]|@qI _ _ _ _ _ _ _ _ #[wy,#[qq,op_gt,#[qx,qM,T.yt,uG,#v[pv 1]],ql],#[zA,#[qq,Qs,#[qw,qQ,T.g_law_take,#v[pv 5,ql]],ql]]].pt %[|#[qV,#[jh,uR,vm,vn,Ya,pv 2,#v[#[qE,#v[#[qH,yK,pv 1,pv 3],#[qw,aa,T.g_law_link,#v[pv 5,pv 1,pv 3]]]]]]]] %[|#[qI,#[qq,op_ne,#[qY,XB,pv 4,ql],ql],%[|#[qV,#[jh,uR,vm,vn,Ya,pv 2,#v[#[qE,#v[#[qH,yK,pv 1,pv 3],#[qw,U,T.g_law_source,#v[pv 5,pv 1]]]]]]]],qv]]]]|#[qt,pv 2]]
 exists 7
 exists 8,N1,q1;refine⟨0,q,ns,1,hq,λl zs H1 s1 e1 hU=>q1 _ _ ?_⟩;erw[hU,hN,aD];exists 8,N2,q2;refine[uN _:λL hL=>q2 _ _ ?_];exists 8,N3,q3;have s2:=s1.trans (qg hL (.lst ([]:oj V)));have aE:H L=none:=s1.free hL;have aF:l≠L:=qk e1 hL;have e2:=qg hL (.lst ([]:oj V)) _ _ e1;have eL:(upd H1 L (.lst [])) L=u_ (.lst []):=qh;generalize upd H1 L (.lst [])=H2 at s2 e2 eL⊢;have aK:=hN.2.1;exists 0,l,0,.inl (SqL.of e2),zs.length,by rw [ua],(),()
 let J_:Nat->L2.St->Hp->Prop:=λi σ H'=>∃(ps:oj (Str×D)) (us:oj V) (x3 x4 x5:om V),σ= [u_ (.ref q),u_ (.ref l),u_ (.ref L),x3,x4,x5]/\Same H H'/\H' l=u_ (.lst (zs.map V.str))/\H' L=u_ (.lst us)/\L2.IsL H' (ps.map prD) us/\(ps.map (·.1)).Sublist (zs.take i)/\∀p∈ps,Wp p.2
 refine for_range (n:=zs.length) J_ ⟨[],[],U_,U_,U_,1,s2,e2,eL,1,List.nil_sublist _,λp hp=>by simp at hp⟩ ?_ ?_
 ·rintro i σ H' hi ⟨ps,us,x3,x4,x5,rfl,sm,el,ap,ak,O,ad⟩;have aL:ps.length<=60:=by
   have h1:=O.length_le;rw [ua,vR] at h1;omega
  have aG:=ak.length;rw [ua] at aG;have aM:((zs.map V.str).length:Int)=(zs.length:Int):=by rw [ua]
  show tSeq _ _ _ _ H';exists 8,B1,b1;refine⟨0,0,_,0,1,0,0,l,0,.inl (SqL.of el),_,0,0,(by split<;>omega),q,0,sq_sm hq sm,λys y0 _ ay aH=> ?_⟩
  erw[ints_of ay,ms,rfl];have sy:=qg aH (.lst (ms.map V.int));have ey:(upd H' y0 (.lst (ms.map V.int))) y0=u_ (.lst (ms.map V.int)):=qh;have ag:=sy _ _ ap;have ah:=sy _ _ el;generalize upd H' y0 (.lst (ms.map V.int))=H3 at sy ey ag ah⊢;have am:=ak.mono sy.tk;have aA:=sm.trans sy;refine⟨y0,ms,1,SqL.of ey,b1 _ _ ?_⟩;exists 8,B2,b2;refine⟨0,0,_,0,(),(),λp H4 hp s4 P4=>b2 _ _ ?_⟩
  have ac:=s4 _ _ ah;have aq:=s4 _ _ ag;have au:L≠p:=qk ag hp;have ae:l≠p:=qk ah hp;have aw:i<zs.length:=hi;have ax:atI (zs.map V.str) (0+(i:Int))=u_ (V.str zs[i]):=by
   rw [show(0:Int)+(i:Int)=((i:Nat):Int) by omega]
   exact Qm (by rw [uE,ug aw];rfl)
  have hz:=hN.2.2 _ (v9 aw);have put:∀(v:V) (d:D) (H5:Hp) (x3 x4 x5:om V),Wp d->Is H5 d v->Kept p H4 H5->∀t,H5 t=U_->rAppend (.ref L) [.ref t] (upd H5 t (.tup [.str zs[i],v])) (λ_ H1=>J_ (i+1) [u_ (.ref q),u_ (.ref l),u_ (.ref L),x3,x4,x5] H1):=by
   intro v d H5 x3 x4 x5 hd hv K5 t ht;have af:Same H3 H5:=K5.same s4 hp;have st:=qg ht (.tup [.str zs[i],v]);have aB:Is (upd H5 t (.tup [.str zs[i],v])) (prD (zs[i],d)) (.ref t):=Is.new (ds:= [.str zs[i],d]) ⟨_,0,[1:fits ()],_,0,hv,1⟩ ht
   generalize upd H5 t (.tup [.str zs[i],v])=H6 at st aB⊢;have al:=af.trans st;have aC:=al _ _ ag;exists L,us,0,1,aC,()
   have tk:Tk H6 (upd H6 L (.lst (us++ [.ref t]))):=Tk.updL aC;refine⟨ps++ [(zs[i],d)],us++ [.ref t],_,_,0,λb o e=> ?_,?_,qh,?_,?_,λp' aI=> ?_⟩
   ·rw [qi (qk e aE)];exact al _ _ (aA _ _ e)
   ·rw [qi aF];exact al _ _ ah
   ·rw [Vc];exact((am.mono al.tk).mono tk).append (L2.IsL.one (aB.mono tk))
   ·rw [take1 aw,Vc];exact O.append (FL _)
   ·rcases Aa.mp aI with h|h
    ·exact ad p' h
    ·cases A9.mp h;exact hd
  have ao:∀(H5:Hp) (x3 x4 x5:om V),Kept p H4 H5->J_ (i+1) [u_ (.ref q),u_ (.ref l),u_ (.ref L),x3,x4,x5] H5:=λH5 x3 x4 x5 K5=>by
   have af:Same H3 H5:=K5.same s4 hp;exact⟨ps,us,_,_,0,aA.trans af,af _ _ ah,af _ _ ag,am.mono af.tk,O.trans (by rw [take1 hi];exact List.sublist_append_left _ _),ad⟩
  exists 0,l,0,.inl (SqL.of ac),_,0,1,0;by_cases c8:(8:Int)<((zs.map V.str).length:Int)
  ·refine iteB (ub c8) ?_;refine⟨0,p,(3),1,P4,(),(),λd5 H5 a5 b5 P5 K5=>[1:0:?_]⟩
   by_cases c3:d5=0
   ·refine iteB (ub (by rw [c3])) ?_
    exists 0,.inl [1:_:SqL.of (K5 _ _ aq au)],0,0,l,_,_,V.str zs[i],1,1,SqL.of (K5 _ _ ac ae),ax;exact⟨0,0,0,p,l,zs,0,(),(),P5,K5 _ _ ac ae,hN,λv d H6 hd hv P6 K6=>[sml rfl:put v d H6 _ _ _ hd hv (K5.trans K6)]⟩
   ·refine iteN (uc (λz=>c3 (V.int.inj z))) ?_;refine⟨0,_,0,1,(by show(0:Int)<11;decide),1,0,ite2 (λ_=> ?_) (λ_=>ao _ _ _ _ K5)⟩
    exists 0,.inl [1:_:SqL.of (K5 _ _ aq au)],0,0,l,_,_,V.str zs[i],1,1,SqL.of (K5 _ _ ac ae),ax;exact⟨0,0,p,l,zs,1,P5,K5 _ _ ac ae,hN,λv d H6 hd hv P6 K6=>[sml rfl:put v d H6 _ _ _ hd hv (K5.trans K6)]⟩
  ·refine iteN (uc c8) ?_;have K5:=Kept.refl p H4;have P5:=P4;refine⟨0,_,0,1,(by show(0:Int)<11;decide),1,0,ite2 (λ_=> ?_) (λ_=>ao _ _ _ _ K5)⟩
   exists 0,.inl [1:_:SqL.of (K5 _ _ aq au)],0,0,l,_,_,V.str zs[i],1,1,SqL.of (K5 _ _ ac ae),ax;exact⟨0,0,p,l,zs,1,P5,K5 _ _ ac ae,hN,λv d H6 hd hv P6 K6=>[sml rfl:put v d H6 _ _ _ hd hv (K5.trans K6)]⟩
 ·rintro σ H' ⟨ps,us,x3,x4,x5,rfl,sm,el,ap,ak,O,ad⟩;rw [vv] at O;have aJ:=O.length_le;rw [ua] at aJ;refine q3 _ _ ?_;exact[0:k L ps us H' sm ap ak [[λz hz=>(hN.2.2 z (O.mem hz)).1:aD.sublist O]:ad] (λp hp=>(hN.2.2 _ (O.mem (RQ hp))).2) ()]
theorem ok_wide (T:Tx K mg a):#[K,3,a.jR,a.jO,["script"],(sp_alln K)]:=by
 have Yv:=#[ok_alln,T];exists 9,T.g_law_wide_names,jl
 erw[h,q,ns,rfl,hq,k];exists _,%[#[qC,(1),jl.nd,#[qw,Yv,T.g_law_all_names,#v[pv 0]]],#[qI,#[qq,op_lt,#[qx,qM,T.yt,uG,#v[pv 1]],ql],%[|#[qt,#[QT,#v[qm,qm,qm,qm,qm,qm,qm,qm]]]],qv]|#[qt,pv 1]]
 exists 7
 refine⟨0,q,ns,1,hq,λl zs H1 s1 U hU=> ?_⟩;refine⟨0,l,0,.inl (SqL.of U),_,0,1,0,ite2 (λ_=> ?_) (λ_=>[0:k l zs H1 s1 U hU])⟩;refine[sml rfl:λl0 O=> ?_];exact k l0 N8 _ (s1.trans (qg O _)) qh (n8_take (n:=8) () ())
theorem ok_drawn (T:Tx K mg a):#[K,4,a.jp,a.jr,["script","salt","many"],(sp_drawn K)]:=by
 have Zu:=#[ok_wide,T];have qQ:=#[jK,T];have w9:=#[ok_potQ,T];exists 9,T.g_law_drawn_names,yC
 erw[h,q,ns,st,n,rfl,hq,h0,h1,hn,k];have hs:=uB;exists _,%[#[qC,2,(3),4,yC.nd,rfl,V_ rfl,#[qw,w9,T.g_law_pot,#v[#[qx,#[call_sumL,1,rfl],T.z_sum,boot_sum,#v[pv 0]],pv 1]],_,_],#[qC,2,(4),4,yC.nd,rfl,V_ rfl,#[qY,op_cat,#[qw,Zu,T.g_law_wide_names,#v[pv 0]],#[QT,#v[qm]]],_,_]|#[qt,#[zI,["k","names","pot"],[4,3],lcsN (qj Q5) ["script","salt","many","pot","names"],#[jj,#v[pv 2]],(λ_ _ _ _ _ _=>#[qT,(0),(show Vp (["k","names","pot"]:oj Str) by decide+kernel)]),(λ_ _ _ _ _ _=>#[qH,#[ix_listK,1,K,rfl],pv 1,#[qw,qQ,T.g_law_take,#v[pv 2,#[qx,#[Kk,1,K,rfl],T.yt,uG,#v[pv 1]]]]])]]]
 exists 7
 exists 8,N1,q1;refine⟨0,q,ns,1,hq,0,_,0,h0,h1,λp H1 ae s1 P1=>q1 _ _ ?_⟩;exists 8,N2,q2;refine⟨0,q,ns,1,sq_sm hq s1,λl zs H2 s2 e2 hU=> ?_⟩;refine[sml rfl:λl3 h3=> ?_];have s3:=qg h3 (.lst [V.str "zz"]);have hl:=hU.1.2.1;refine⟨l,l3,_,0,1,s3 _ _ e2,qh,(by rw [ua];show _+1<=Vb;omega),λl4 h4=>q2 _ _ ?_⟩
 have s4:=qg h4 (.lst (zs.map V.str++ [V.str "zz"]));have e4:upd (upd H2 l3 (.lst [V.str "zz"])) l4 (.lst (zs.map V.str++ [V.str "zz"])) l4=u_ (.lst ((zs++ZZ).map V.str)):=by
  rw [qh,Vc]
  rfl
 have O:=(s2.trans s3).trans s4;have P4:=P1.same O;have hz:∀z∈zs++ZZ,nm z=v_/\z.length<=4:=λz hz=>by
  rcases Aa.mp hz with h|h
  ·exact hU.1.2.2 z h
  ·cases A9.mp h;exact zz_ok
 have ah:(zs++ZZ).length=zs.length+1:=uu;generalize upd (upd H2 l3 (.lst [V.str "zz"])) l4 (.lst (zs.map V.str++ [V.str "zz"]))=H4 at e4 O P4⊢;have ac:=P4.ne_strs e4;refine⟨0,0,(),(),λD hD=> ?_⟩
 have nD:D≠p:=(P4.free hD).symm;have af:H p=none:=ae;refine J1 (lo:=0) (n:=n) (tl:= [u_ (.ref l4),u_ (.ref p)]) (λi ys H'=>∃rs:oj Str,ys=rs.map V.str/\(∀r∈rs,nm r=v_/\r.length<=4)/\PotQ H' p/\(∀b o,H4 b=u_ o->b≠p->H' b=u_ o)) (yq ()) ⟨[],1,(λb hb=>by simp at hb),P4.same (qg hD _),λb o e _=>qg hD _ _ _ e⟩ ?_ ?_
 ·rintro i ys H' hi ⟨rs,rfl,U,P',K'⟩ aa hy R hR;have e5:=K' _ _ e4 ac;refine⟨0,0,0,l4,0,.inl (SqL.of e5),p,0,P',(by rw [ua];omega),(by rw [ua];omega),λd6 H6 a6 b6 P6 K6=> ?_⟩
  erw[YR (xs:=(zs++ZZ).map V.str) (i:=d6) a6 b6,x1,ad];erw[Ab.mp (JC ad),z,ag,rfl];exists l4,_,_,0,1,SqL.of (K6 _ _ e5 ac),ad;refine hR _ H6 (K6 _ _ aa nD) ⟨rs++ [z],by rw [Vc];rfl,λb hb=> ?_,?_,λb o e np=> ?_⟩
  ·rcases Aa.mp hb with h|h
   ·exact U b h
   ·rw [vg] at h;subst h;exact hz b ag
  ·erw[P6,x,e2,h2];exact⟨x,by rwa [qi nD.symm],h2⟩
  ·rw [qi (qk e hD)];exact K6 _ _ (K' b o e np) np
 ·rintro ys H' ⟨rs,rfl,U,P',K'⟩ aa;exact k D rs H' (λb o e=>K' b o (O _ _ (s1 _ _ e)) (qk e af)) aa U
inductive sp_badl (vs:List V) (H:Hp) (Q:VK) (E_:XK):Prop
 |mk (v:V) (d:D) (_:vs= [v]) (_:Is H d v) (_:∀(u:V) (H':Hp),Same H H'->((Q1 d).isSome=v_->u= .non)->((Q1 d).isSome=V7->u≠ .non)->Q u H')
inductive sp_isrule (vs:List V) (H:Hp) (Q:VK) (E_:XK):Prop
 |mk (v:V) (d:D) (_:vs= [v]) (_:Is H d v) (_:∀H',Same H H'->Q (.bl (Q1 d).isSome) H')
theorem ok_badl (T:Tx K mg a)(C:Fx K w mg g a):#[K,4,a.W2,a.WH,["tree"],sp_badl]:=by
 have JB:=#[ok_read,T,C];exists 9,T.g_bad_line,sc_bad_line
 erw[h,v,d,rfl,hv,k];exists _,%[|#[qt,#[qH,qF,#[qw,JB,T.g_read_lines,#v[pv 0]],ql]]]
 exists 7
 refine⟨0,v,d,1,hv,λu H' x y s' U hu=> ?_⟩;erw[hu,p,ws,rfl,hp,w1,r1,rfl,h1,w2,r2,rfl,h2,h3];cases(show r2= [] from h3)
 refine⟨p,_,_,0,1,SqT.of hp,1,k _ H' s' (λe=> ?_) (λe=> ?_)⟩
 ·erw[XA e,rs,O];erw[U.1 rs O,_,rfl];exact h2
 ·have hn:Q1 d=none:=by
   cases hh:Q1 d with
   |none=>rfl
   |some rs=>rw [hh] at e;cases e
  erw[U.2 hn,i,rfl];intro z;rw [z] at h2;cases(show V.non= .int i from h2)
theorem ok_isrule (T:Tx K mg a)(C:Fx K w mg g a):#[K,5,a.f_is_rule,a.d_is_rule,["value"],sp_isrule]:=by
 have O:=#[ok_badl,T,C];exists 9,T.g_is_rule,sc_is_rule,U
 erw[h,v,d,rfl,hv,k];exists _,%[|#[qt,#[YA,Ym,#[qw,16,O,U.mono (),_,T.g_bad_line.m,T.g_bad_line.F.kp,T.g_bad_line.b,.nil,qB,#v[pv 0],_,_,_],qX,qz _]]]
 exists 7
 refine⟨0,v,d,1,hv,λu H' s' h1 h2=>[1:?_]⟩;have e:decide (u=V.non)=(Q1 d).isSome:=by
  cases c:(Q1 d).isSome with
  |true=>rw [h1 c];rfl
  |false=>exact uc (h2 c)
 have:=k H' s';rwa [<-e] at this
end
theorem rows_of {n:Nat}:∀{ds:oj D},(∀d∈ds,(Qk n d).isSome=v_)->(ds.filterMap (Qk n)).length=ds.length/\ds=(ds.filterMap (Qk n)).map (λr=>D.str (Yb r))/\∀r∈ds.filterMap (Qk n),j7 n 300 r
 | [],_=>[1:1:λr h=>nomatch h]
 |d::ds,h=>by
  erw[XA (h d uf),r,O];obtain⟨h1,h2,h3⟩:=rows_of (n:=n) (ds:=ds) λx U=>h x (ue _ U);have hd:d= .str (Yb r)/\j7 n 300 r:=by
   cases d with
   |str z=>
    obtain⟨a1,a2⟩:=rowOf_ok (show wU n z=u_ r from O)
    exact⟨by rw [a2],a1⟩
   |non=>cases O
   |bl b=>cases O
   |int i=>cases O
   |lst=>cases O
   |dct=>cases O
   |tup xs=>cases O
  rw [Uf O];refine⟨by rw [ui,ui,h1],by rw [uq,<-h2,hd.1],λx U=> ?_⟩
  rcases A8.mp U with rfl|U
  ·exact hd.2
  ·exact h3 x U
variable {rs:oj Rw}
theorem wn {d:D}(h:Q1 d=u_ rs):d=JG rs/\yb rs:=by
 cases d with
 |tup ds=>
  rw [X5] at h;split at h
  ·rename_i O
   simp only [ur,uH] at O;erw[O,[[c1,c2],U],c4];cases h;erw[rows_of (List.all_eq_true.mp U),h1,h2,h3];have e:D.tup ds=JG (ds.filterMap (Qk ds.length)):=by
    unfold JG;rw [<-h2]
   refine⟨e,⟨(),(),?_,by rwa [<-e]⟩⟩
   rwa [h1]
  ·cases h
 |non=>cases h
 |bl b=>cases h
 |int i=>cases h
 |str z=>cases h
 |lst=>cases h
 |dct=>cases h
noncomputable def GMT:oj Str:= ["begin","look","wanted","take","full"]
structure GFl (fs:oj (Str×V))(nv ov mv av rv ev:V):Prop where
 Zm:fs.lookup ("name":Str)=u_ nv
 Wa:fs.lookup ("order":Str)=u_ ov
 Yy:fs.lookup ("made_by":Str)=u_ mv
 yN:fs.lookup ("rule_asks":Str)=u_ av
 Qu:fs.lookup ("rule_run":Str)=u_ rv
 f_end:fs.lookup ("end":Str)=u_ ev
 meth:∀m∈GMT,fs.lookup m=U_
 len:fs.length<=20
section
variable {fs:oj (Str×V)}{nv ov mv av rv ev:V}
theorem GFl.set_made_by {u:V}(h:GFl fs nv ov mv av rv ev):GFl (putF "made_by" u fs) nv ov u av rv ev:=by
 refine⟨?_,?_,?_,?_,?_,?_,λm hm=> ?_,by rw [YU h.Yy];exact h.len⟩
 all_goals rw [qJ]
 all_goals first|rw [A5 rfl]|(rw [A4 ()];first|exact h.Zm|exact h.Wa|exact h.Yy|exact h.yN|exact h.Qu|exact h.f_end)|(rw [A4 (λe=>by subst e;revert hm;decide+kernel)];exact h.meth m hm)
theorem GFl.set_rule_asks {u:V}(h:GFl fs nv ov mv av rv ev):GFl (putF "rule_asks" u fs) nv ov mv u rv ev:=by
 refine⟨?_,?_,?_,?_,?_,?_,λm hm=> ?_,by rw [YU h.yN];exact h.len⟩
 all_goals rw [qJ]
 all_goals first|rw [A5 rfl]|(rw [A4 ()];first|exact h.Zm|exact h.Wa|exact h.Yy|exact h.yN|exact h.Qu|exact h.f_end)|(rw [A4 (λe=>by subst e;revert hm;decide+kernel)];exact h.meth m hm)
theorem GFl.set_rule_run {u:V}(h:GFl fs nv ov mv av rv ev):GFl (putF "rule_run" u fs) nv ov mv av u ev:=by
 refine⟨?_,?_,?_,?_,?_,?_,λm hm=> ?_,by rw [YU h.Qu];exact h.len⟩
 all_goals rw [qJ]
 all_goals first|rw [A5 rfl]|(rw [A4 ()];first|exact h.Zm|exact h.Wa|exact h.Yy|exact h.yN|exact h.Qu|exact h.f_end)|(rw [A4 (λe=>by subst e;revert hm;decide+kernel)];exact h.meth m hm)
theorem GFl.set_end {u:V}(h:GFl fs nv ov mv av rv ev):GFl (putF "end" u fs) nv ov mv av rv u:=by
 refine⟨?_,?_,?_,?_,?_,?_,λm hm=> ?_,by rw [YU h.f_end];exact h.len⟩
 all_goals rw [qJ]
 all_goals first|rw [A5 rfl]|(rw [A4 ()];first|exact h.Zm|exact h.Wa|exact h.Yy|exact h.yN|exact h.Qu|exact h.f_end)|(rw [A4 (λe=>by subst e;revert hm;decide+kernel)];exact h.meth m hm)
end
structure Gc where
 (x o:o3)
 n:Str
structure Gs where
 mb:D
 ra:oj D
 run:om (Mc×Rn)
 en:D
noncomputable def Wn (CM:o3)(H:Hp)(x:o3)(rv:V):om (Mc×Rn)->Prop
 |none=>rv= .non
 |some (m,r)=>rv= .ref m.x/\m.x≠x/\yM CM H m r
noncomputable def GoAt (C CM:o3)(H:Hp)(g:Gc)(s:Gs):Prop:=
 ∃(dx:o3) (fs:oj (Str×V)) (mv av rv ev:V),H g.x=u_ (.ins C dx fs)/\GFl fs (.str g.n) (.ref g.o) mv av rv ev/\Is H s.mb mv/\Is H (.tup s.ra) av/\Wn CM H g.x rv s.run/\Is H s.en ev
variable {CM:o3}
theorem Wn.same {x:o3}{o:om (Mc×Rn)}(h:Wn CM H x rv o)(s:Same H H'):Wn CM H' x rv o:=by
 cases o with
 |none=>exact h
 |some p=>exact[h.1:h.2.1:h.2.2.same s]
theorem GoAt.same {g:Gc}{s:Gs}(h:GoAt C CM H g s)(sm:Same H H'):GoAt C CM H' g s:=by
 erw[h,dx,fs,mv,av,rv,ev,e,f,i,j,k,l];exact⟨dx,fs,mv,av,rv,ev,sm _ _ e,f,i.mono sm.tk,j.mono sm.tk,k.same sm,l.mono sm.tk⟩
theorem yM.put {m:Mc}{r:Rn}{x:o3}{fs:oj (Str×V)}(h:yM CM H m r)(e:H x=u_ (.ins C dx fs))(n:m.x≠x):yM CM (upd H x (.ins C dx fs')) m r:=by
 erw[h,U,fm,rv,ru,tv,gv,e1,f,i,j,b,O,gl,t];have tk:Tk H (upd H x (.ins C dx fs')):=Tk.updI e;have n1:m.db≠x:=Yo.ne e b;have n2:m.dg≠x:=λz=>by rw [z,e] at O;cases O
 exact⟨U,fm,rv,ru,tv,gv,by rwa [qi n],f,i.mono tk,j.mono tk,b.move tk (qi n1),by rwa [qi n2],gl.mono tk,t.mono tk⟩
theorem Wn.put {x:o3}{fs:oj (Str×V)}{o:om (Mc×Rn)}(h:Wn CM H x rv o)(e:H x=u_ (.ins C dx fs)):Wn CM (upd H x (.ins C dx fs')) x rv o:=by
 cases o with
 |none=>exact h
 |some p=>exact[h.1:h.2.1:h.2.2.put e h.2.1]
structure Gv (g:Gc)(H H':Hp):Prop where
 kept:∀b o,H b=u_ o->b≠g.x->H' b=u_ o
 tk:Tk H H'
theorem WE {g:Gc}{fs:oj (Str×V)}{mv av ev:V}{s:Gs}(e:H g.x=u_ (.ins C dx fs))(f:GFl fs' (.str g.n) (.ref g.o) mv av rv ev)(i:Is H s.mb mv)(j:Is H (.tup s.ra) av)(k:Wn CM H g.x rv s.run)(l:Is H s.en ev):
  GoAt C CM (upd H g.x (.ins C dx fs')) g s/\Gv g H (upd H g.x (.ins C dx fs')):=by
 have tk:Tk H (upd H g.x (.ins C dx fs')):=Tk.updI e;exact⟨⟨dx,fs',mv,av,rv,ev,qh,f,i.mono tk,j.mono tk,k.put e,l.mono tk⟩,⟨λb o h n=>by rwa [qi n],tk⟩⟩
noncomputable def lookS (s:Gs)(r:Rn):Gs:=if QH r.th=v_ then s else{s with en:=r.th}
inductive sp_look (C CM:Addr) (vs:List V) (H:Hp) (Q:VK) (E_:XK):Prop
 |mk (g:Gc) (s:Gs) (m:Mc) (r:Rn) (_:vs= [.ref g.x]) (_:GoAt C CM H g s) (_:s.run=u_ (m,r)) (_:Th r.th) (_:∀H',Gv g H H'->GoAt C CM H' g (lookS s r)->Q .non H')
section
variable {P:o9}{w:og}{K:o0}{mg:Str->om o6}{base:o8}{a:Ad}{g:Ga}
theorem ok_look (T:Tx K mg a):#[K,2,a.zP,a.zQ,["self"],(sp_look a.qK a.qo)]:=by
 have Qo:=#[ok_wait,T];have QK:=#[ok_now,T];exists 9,T.g_Going_look,KC
 erw[h,g,st,m,r,rfl,hG,O,aa,k];exists _,%[|#[qI,#[Qy,#[Qj,#[QB,#[qN,5,pv 0,rfl],T.qr,T.g_Machine_is_waiting,Qo]]],%[|#[Qc,#[QB,#[qN,5,pv 0,rfl],T.qr,T.g_Machine_now,QK]]],qv]]
 exists 7
 erw[id hG,dx,fs,mv,av,rv,ev,e,f,i,j,hR,l];rw [O] at hR;erw[hR,rfl,hn,hM];erw[id hM,dm,fm,ac,ru,tv,gv,em,U,i1,i2,i3,i4,i5,i6];exists 0,g.x,_,dx,fs,0,e,T.qR,T.qW,f.Qu,m.x,dm,fm,1,em,U.meth _ (),m,r,1,hM,aa,0
 cases c:QH r.th with
 |true=>
  refine iteF (k H [λ_ _ h _=>h:Tk.refl H] ?_);unfold lookS;rwa [A5 c]
 |false=>
  refine iteT ?_;refine⟨0,g.x,_,dx,fs,0,e,T.qR,T.qW,f.Qu,m.x,dm,fm,1,em,U.meth _ (),m,r,1,hM,λv hv=> ?_⟩
  refine⟨0,g.x,_,dx,fs,1,e,T.qR,T.Q2,by have:=f.len;omega,?_⟩
  have hS:lookS st r={st with en:=r.th}:=by
   unfold lookS;rw [c];exact A4 u9
  obtain⟨m1,m2⟩:=WE (CM:=a.qo) (s:={st with en:=r.th}) e (f.set_end (u:=v)) i j (by rw [O];exact[1:hn:hM]) hv
  refine k _ m2 ?_;rw [hS];exact m1
inductive sp_runner (CM:Addr) (vs:List V) (H:Hp) (Q:VK) (E_:XK):Prop
 |mk (o:Addr) (v:V) (rs:List Rw) (own:Str) (_:vs= [.ref o,v,.str own]) (_:Is H (JG rs) v) (_:yb rs) (_:nm own=v_) (_:∀(mc:Mc) (H':Hp),Same H H'->H mc.x=U_->H mc.db=U_->H mc.dg=U_->mc.rs=rs->mc.own=own->yM CM H' mc (runS rs own [] 300 B0 1 0)->Q (.ref mc.x) H')
theorem ok_runner (T:Tx K mg a)(C:Fx K w mg g a):#[K,8,a.Yr,a.YF,["self","rule","own"],(sp_runner a.qo)]:=by
 have Y8:=#[ok_minit,T,C];exists 9,T.g_PlainOrder_runner,xc
 erw[h,o,v,rs,own,rfl,hv,hR,hn,k];have hl:=kL hn;have hI:∀H:Hp,Is H (.str own) (.str own):=λH=>yU ()
 exists _,%[|#[qt,#[ZS,T.M_Machine,Y8,T.m_Machine,T.g_Machine_init,passF,#v[pv 1,pv 2]]]]
 exists 7
 refine[0:0:λx dx hx aa nx=> ?_];have U:Same H (upd (upd H dx (.own x)) x (.ins a.qo dx [])):=λb o h=>by rwa [qi (qk h hx),qi (qk h aa)]
 refine⟨x,dx,v,.str own,JG rs,.str own,1,qh,hv.mono U.tk,hI _,λz=> ?_,λ_ z=> ?_,λO af e1 ac e2 ag ah H' db dg kept ad ae hM=>[1:?_]⟩
 ·rw [hR.read] at z;cases z
 ·have:isNm (.str own)=true:=hn;rw [this] at z;cases z
 ·have e3:O=rs:=by
   have h1:=hR.read;rw [e1,ac.read] at h1;exact uF h1
  cases e2;subst e3;exact k ⟨x,db,dg,O,own⟩ H' (λb o h=>kept b o (U b o h) (qk h hx)) hx (U.free ad) (U.free ae) rfl rfl hM
noncomputable def R0 (rs:oj Rw)(n:Str):Rn:=runS rs n [] 300 B0 1 0
structure BegOk (H:Hp)(g:Gc)(d:D)(s s':Gs):Prop where
 mb:s'.mb=s.mb
 ra:s'.ra=s.ra
 lack:d= .non->s'.run=U_/\s'.en=flt "lack"
 rule:d≠ .non->Q1 d=U_->s'.run=U_/\s'.en=flt "rule"
 go:∀rs,Q1 d=u_ rs->∃mc:Mc,H mc.x=U_/\H mc.db=U_/\H mc.dg=U_/\mc.rs=rs/\mc.own=g.n/\s'.run=u_ (mc,R0 rs g.n)/\s'.en=if QH (R0 rs g.n).th=v_ then s.en else(R0 rs g.n).th
inductive sp_begin (C CM CO:Addr) (vs:List V) (H:Hp) (Q:VK) (E_:XK):Prop
 |mk (g:Gc) (s:Gs) (v:V) (d:D) (_:vs= [.ref g.x,v]) (_:GoAt C CM H g s) (_:s.run=U_) (_:nm g.n=v_) (_:Is H d v) (_:(∃dx fs,H g.o=u_ (.ins CO dx fs)/\fs.lookup ("runner":Str)=U_)) (_:∀H' s',Gv g H H'->GoAt C CM H' g s'->BegOk H g d s s'->Q .non H')
theorem R0_ok {n:Str}(h:yb rs):RnOk rs (R0 rs n):=runS_ok h 300 B0 1 0 [] rfl B0_tr () (by have:=h.n0;omega) ⟨1,by simp [dpL],uh _⟩
theorem R0_th {n:Str}(h:yb rs):Th (R0 rs n).th:= .inr (R0_ok h).two
theorem ok_begin (T:Tx K mg a)(C:Fx K w mg g a):#[K,9,a.XF,a.XR,["self","rule"],(sp_begin a.qK a.qo a.qp)]:=by
 have wx:=#[ok_isrule,T,C];have Xc:=#[ok_runner,T,C];have Js:=#[ok_look,T];exists 9,T.g_Going_begin,Wz
 erw[h,g,st,v,d,rfl,hG,O,hn,hv,[ad,ae,ho,af],k];have hs:=uB;erw[id hG,dx,fs,mv,av,rv,ev,e,f,i,j,hR,l];rw [O] at hR;exists _,%[|#[qI,#[qq,Ym,pv 1,qX],%[|#[Qc,#[qE,#v[qm,qm]]]],%[|#[qI,#[Qy,#[Qj,#[qw,wx,T.g_is_rule,#v[pv 1]]]],%[|#[Qc,#[qE,#v[qm,qm]]]],%[#[Qc,#[Qv,#[qN,5,pv 0,rfl],T.qy,T.g_PlainOrder_runner,Xc,#v[pv 1,#[qN,5,pv 0,rfl]]]]|#[qV,#[QB,pv 0,T.qR,T.g_Going_look,Js]]]]]]]
 exists 7
 exists 0,1,0;have fl:∀(z:Str) (H:Hp) (l:o3),z.length<=100->H l=U_->Is (upd H l (.tup [.str "fault",.str z])) (flt z) (.ref l):=λz H l hz hl=>Is.new (ds:= [.str "fault",.str z]) ⟨_,0,yU (),_,0,yU (),1⟩ hl
 have aa:fs.length<1000:=by have:=f.len;omega
 have put:∀(z:Str) (t:o3) (H':Hp),z.length<=100->Same H H'->H' t=U_->((d= .non->z="lack")/\(d≠ .non->z="rule"/\Q1 d=U_))->Q .non (upd (upd H' t (.tup [.str "fault",.str z])) g.x (.ins a.qK dx (putF "end" (.ref t) fs))):=λz t H' hz s' ht hd=>by
  have s1:=s'.trans (qg ht (.tup [.str "fault",.str z]));obtain⟨m1,m2⟩:=WE (CM:=a.qo) (g:=g) (s:={st with en:=flt z}) (s1 _ _ e) (f.set_end (u:= .ref t)) (i.mono s1.tk) (j.mono s1.tk) (by show Wn _ _ _ _ st.run;rwa [O]) (fl z H' t hz ht)
  refine k _ _ [λb o h n=>m2.kept b o (s1 b o h) n:s1.tk.trans m2.tk] m1 ⟨1,1,λh=>⟨O,by rw [hd.1 h]⟩,λh _=>⟨O,by rw [(hd.2 h).1]⟩,λrs h=> ?_⟩
  by_cases c:d= .non
  ·rw [c] at h;cases h
  ·rw [(hd.2 c).2] at h;cases h
 by_cases c:d= .non
 ·subst c;cases(show v= .non from hv)
  refine iteB (ub rfl) [(sml rfl):λt ht=> ?_];exists 0,g.x,_,dx,fs,1,(qg ht _) _ _ e,T.qR,T.Q2,aa;exact put "lack" t H () (Same.refl _) ht [λ_=>rfl:λh=>absurd rfl h]
 ·refine iteN (uc (zB hv c)) ?_;refine⟨0,v,d,1,hv,λH1 s1=>[0:?_]⟩;cases hd:Q1 d with
  |none=>
   refine iteT [(sml rfl):λt ht=> ?_];exists 0,g.x,_,dx,fs,1,(qg ht _) _ _ (s1 _ _ e),T.qR,T.Q2,aa;exact put "rule" t H1 () s1 ht [λh=>absurd h c:λ_=>[1:hd]]
  |some rs=>
   refine iteF ?_;erw[wn hd,ed,ac];have e1:=s1 _ _ e;refine⟨0,g.x,_,dx,fs,0,e1,T.qR,T.Xx,f.Wa,g.o,ad,ae,1,s1 _ _ ho,af,0,0,g.x,_,dx,fs,0,e1,T.qR,T.Yc,f.Zm,g.o,v,rs,g.n,1,by rw [<-ed];exact hv.mono s1.tk,ac,hn,λmc H2 s2 nx nb ng ag ah hM=> ?_⟩
   have e2:=s2 _ _ e1;have U:=s1.trans s2;exists 0,g.x,_,dx,fs,1,e2,T.qR,T.qW,aa;have ak:mc.x≠g.x:=(qk e1 nx).symm;erw[WE (C:=a.qK) (CM:=a.qo) (g:=g) (s:={st with run:=u_ (mc,R0 rs g.n)}) e2 (f.set_rule_run (u:= .ref mc.x)) (i.mono U.tk) (j.mono U.tk) [1:ak:hM] (l.mono U.tk),m1,m2]
   erw[id m1,al,am,_,_,_,_,e3,f3,_];refine⟨0,g.x,al,am,1,e3,f3.meth _ (),g,_,mc,R0 rs g.n,1,m1,1,R0_th ac,λH3 v3 G3=>k H3 _ [λb o h n=>v3.kept b o (m2.kept b o (U b o h) n) n:(U.tk.trans m2.tk).trans v3.tk] G3 ?_⟩
   unfold lookS;refine⟨by split<;>rfl,by split<;>rfl,λh=>absurd h c,(λ_ h=>by rw [hd] at h;cases h),λao h=> ?_⟩
   rw [hd] at h;cases h;refine⟨mc,s1.free nx,s1.free nb,s1.free ng,ag,ah,by split<;>rfl,?_⟩
   split<;>rfl
inductive XX (C CM:Addr) (vs:List V) (H:Hp) (Q:VK) (E_:XK):Prop
 |mk (g:Gc) (s:Gs) (_:vs= [.ref g.x]) (_:GoAt C CM H g s) (_:((s.run=U_/\∃z,s.mb= .str z/\∀v H',Same H H'->Is H' (.tup [.str "rule",.str z]) v->Q v H')∨∃mc r d,s.run=u_ (mc,r)/\r.th= .tup [.str "asks",d]/\∀v,Is H d v->Q v H))
noncomputable def runG:om (Mc×Rn)->oj D
 |none=> []
 |some (_,r)=>r.gs
noncomputable def fullD (s:Gs):D:= .tup [.tup (s.ra++runG s.run),s.en]
inductive sp_full (C CM:Addr) (vs:List V) (H:Hp) (Q:VK) (E_:XK):Prop
 |mk (g:Gc) (s:Gs) (_:vs= [.ref g.x]) (_:GoAt C CM H g s) (_:s.ra.length+(runG s.run).length<=1000) (_:∀v H',Same H H'->Is H' (fullD s) v->Q v H')
variable {v:V}{Q:VK}
theorem catG_is {K:o0}{xs ys:oj D}{u:V}(O:Is H (.tup xs) v)(U:Is H (.tup ys) u)(hl:xs.length+ys.length<=1000)(k:∀p H',Same H H'->Is H' (.tup (xs++ys)) p->Q p H'):rCatG K v u H Q:=by
 obtain⟨a,vs,rfl,ha,ia⟩:=(show∃a vs,v= .ref a/\H a=u_ (.tup vs)/\L2.IsL H xs vs from O)
 obtain⟨b,us,rfl,hb,ib⟩:=(show∃a vs,u= .ref a/\H a=u_ (.tup vs)/\L2.IsL H ys vs from U)
 have la:=ia.length;have lb:=ib.length;have hs:=uB;refine⟨a,b,vs,us,1,1,SqT.of ha,SqT.of hb,(),λe=> ?_,λ_ e=> ?_,λ_ _ p hp=> ?_⟩
 ·have:xs= []:=List.length_eq_zero_iff.mp (by rw [e] at la;simpa using la.symm)
  rw [this] at k;exact k _ H (Same.refl _) U
 ·have:ys= []:=List.length_eq_zero_iff.mp (by rw [e] at lb;simpa using lb.symm)
  rw [this,uW] at k;exact k _ H (Same.refl _) O
 ·have n:=qg hp (.tup (vs++us));exact k _ _ n ⟨p,0,qh,(ia.append ib).mono n.tk⟩
theorem ok_wanted (T:Tx K mg a):#[K,2,a.xu,a.xq,["self"],(XX a.qK a.qo)]:=by
 have QK:=#[ok_now,T];exists 9,T.g_Going_wanted,ZR
 erw[h,g,st,rfl,hG,h];have hs:=uB;erw[id hG,dx,fs,mv,av,rv,ev,e,f,i,j,U,l];exists _,%[#[qI,#[qq,Ym,#[qN,5,pv 0,rfl],qX],%[|#[qt,#[qE,#v[qm,#[qN,5,pv 0,rfl]]]]],qv]|#[qt,#[qH,JS,#[QB,#[qN,5,pv 0,rfl],T.qr,T.g_Machine_now,QK],ql]]]
 exists 7
 exists 0,g.x,_,dx,fs,0,e,T.qR,T.qW,f.Qu,1,0;rcases h with⟨O,z,hz,k⟩|⟨mc,r,d,O,aa,k⟩
 ·rw [O] at U;cases(show rv= .non from U)
  rw [hz] at i;obtain⟨rfl,hl⟩:=(show mv= .str z/\z.length<=Vb from i)
  refine iteB (ub rfl) ⟨0,g.x,_,dx,fs,0,e,T.qR,T.yG,f.Yy,(sml rfl),λt ht=> ?_⟩;exact k _ _ (qg ht _) (Is.new ⟨_,0,yU (),_,0,[1:hl],1⟩ ht)
 ·rw [O] at U;erw[U,rfl,hn,hM];erw[id hM,dm,fm,ad,ru,tv,gv,em,ac,i1,i2,i3,i4,i5,i6];refine iteN (uc (λz=>by cases z)) ?_
  refine⟨0,g.x,_,dx,fs,0,e,T.qR,T.qW,f.Qu,mc.x,dm,fm,1,em,ac.meth _ (),mc,r,1,hM,λv hv=> ?_⟩
  rw [aa] at hv;exact .inr (.inl (xz (i:=1) (d:=d) hv (Qm (j:=1) rfl) λq hq=>k q hq))
theorem ok_full (T:Tx K mg a):#[K,2,a.zY,a.zU,["self"],(sp_full a.qK a.qo)]:=by
 have yF:=#[ok_asks,T];exists 9,T.g_Going_full,XW
 erw[h,g,st,rfl,hG,hl,k];have hs:=uB;erw[id hG,dx,fs,mv,av,rv,ev,e,f,i,j,hR,l];exists _,%[#[qC,(1),XW.nd,#[ye,#[qq,Ym,#[qN,5,pv 0,rfl],qX],#[qE,qd],#[QB,#[qN,5,pv 0,rfl],T.qr,T.g_Machine_asked,yF]]]|#[qt,#[qE,#v[#[qY,Xl,#[qN,5,pv 0,rfl],pv 1],#[qN,5,pv 0,rfl]]]]]
 exists 7
 have fin:∀(v:V) (H1:Hp),Same H H1->Is H1 (.tup (runG st.run)) v->tFld K (tVar 0) "rule_asks" [u_ (.ref g.x),u_ v] H1 λx H2=>tVar 1 [u_ (.ref g.x),u_ v] H2 λy H3=>rCatG K x y H3 λz H4=>tFld K (tVar 0) "end" [u_ (.ref g.x),u_ v] H4 λu H5=> [z,u].length<=Vb/\∀p,H5 p=U_->Q (.ref p) (upd H5 p (.tup [z,u])):=λv H1 s1 hv=>by
  exists 0,g.x,_,dx,fs,0,s1 _ _ e,T.qR,T.yT,f.yN,0;refine catG_is (j.mono s1.tk) hv hl λz H4 s4 i4=> ?_;have U:=s1.trans s4;refine⟨0,g.x,_,dx,fs,0,U _ _ e,T.qR,T.Q2,f.f_end,(sml rfl),λp hp=> ?_⟩;have n:=qg hp (.tup [z,ev]);exact k _ _ (U.trans n) (Is.new ⟨_,0,i4,_,0,l.mono U.tk,1⟩ hp)
 exists 0,g.x,_,dx,fs,0,e,T.qR,T.qW,f.Qu,1,0;cases O:st.run with
 |none=>
  rw [O] at hR fin;cases(show rv= .non from hR)
  refine iteB (ub rfl) [(sml rfl):λt ht=> ?_];exact fin _ _ (qg ht _) (Is.new (ds:= []) rfl ht)
 |some p=>
  erw[p,mc,r];rw [O] at hR fin;erw[hR,rfl,hn,hM];erw[id hM,dm,fm,ac,ru,tv,gv,em,aa,i1,i2,i3,i4,i5,i6];refine iteN (uc (λz=>by cases z)) ?_
  refine⟨0,g.x,_,dx,fs,0,e,T.qR,T.qW,f.Qu,mc.x,dm,fm,1,em,aa.meth _ (),mc,r,1,hM,λv H1 s1 hv=> ?_⟩
  exact fin v H1 s1 hv
structure Gw (g:Gc)(o:om (Mc×Rn))(H H':Hp):Prop where
 kept:∀b ob,H b=u_ ob->b≠g.x->(∀mc r,o=u_ (mc,r)->b≠mc.x/\b≠mc.db/\b≠mc.dg)->H' b=u_ ob
 tk:Tk H H'
inductive XG (C CM CO:Addr) (vs:List V) (H:Hp) (Q:VK) (E_:XK):Prop
 |mk (g:Gc) (s:Gs) (v:V) (d:D) (_:vs= [.ref g.x,v]) (_:GoAt C CM H g s) (_:nm g.n=v_) (_:Is H d v) (_:g.o≠g.x) (_:(∃dx fs,H g.o=u_ (.ins CO dx fs)/\fs.lookup ("runner":Str)=U_)) (_:((s.run=U_/\∃z,s.mb= .str z/\∀H' s',Gw g s.run H H'->GoAt C CM H' g s'->BegOk H g d {s with ra:= [.tup [.tup [.str "rule",.str z],d]]} s'->Q .non H')∨∃mc r u q,s.run=u_ (mc,r)/\mc.own=g.n/\yb mc.rs/\RnOk mc.rs r/\r.th= .tup [.str "asks",.tup [.str u,q]]/\ansB u d=v_/\∀H',Gw g s.run H H'->GoAt C CM H' g (lookS {s with run:=u_ (mc,ansS mc.rs mc.own r d)} (ansS mc.rs mc.own r d))->Q .non H'))
theorem go_mv {g:Gc}{s:Gs}{mc:Mc}{r O:Rn}(h:GoAt C CM H g s)(hr:s.run=u_ (mc,r))(v:Mv mc H H')(hM:yM CM H' mc O):GoAt C CM H' g {s with run:=u_ (mc,O)}:=by
 erw[h,dx,fs,mv,av,rv,ev,e,f,i,j,k,l];rw [hr] at k;erw[k,rfl,hn,hm];erw[id hm,dm,fm,aa,ru,tv,gv,em,ac,i1,i2,i3,U,i5,i6];have n1:g.x≠mc.db:=(Yo.ne e i3).symm;have n2:g.x≠mc.dg:=λz=>by rw [<-z,e] at U;cases U
 exact⟨dx,fs,mv,av,_,ev,v.kept _ _ e hn.symm n1 n2,f,i.mono v.tk,j.mono v.tk,[1:hn:hM],l.mono v.tk⟩
theorem ok_gtake (T:Tx K mg a)(C:Fx K w mg g a):#[K,10,a.zZ,a.Zc,["self","answer"],(XG a.qK a.qo a.qp)]:=by
 have jG:=#[ok_begin,T,C];have Js:=#[ok_look,T];have yd:=#[ok_ans,T,C];exists 9,T.g_Going_take,Kr
 erw[h,U,st,v,d,rfl,hG,hn,hv,ao,[ap,aq,ho,au],h];have hs:=uB;erw[id hG,dx,fs,mv,av,rv,ev,e,f,i,j,hR,l];exists _,%[|#[qI,#[qq,Ym,#[qN,5,pv 0,rfl],qX],%[#[Qc,#[qE,#v[#[qE,#v[#[qE,#v[qm,#[qN,5,pv 0,rfl]]],pv 1]]]]]|#[qV,#[Qv,pv 0,T.qR,T.g_Going_begin,jG,#v[pv 1]]]],%[#[qV,#[Qv,#[qN,5,pv 0,rfl],T.qr,T.g_Machine_answer,yd,#v[pv 1]]]|#[qV,#[QB,pv 0,T.qR,T.g_Going_look,Js]]]]]
 exists 7
 exists 0,U.x,_,dx,fs,0,e,T.qR,T.qW,f.Qu,1,0;rcases h with⟨O,z,hz,k⟩|⟨mc,r,u,q,O,aw,ae,af,ag,aa,k⟩
 ·rw [O] at hR;cases(show rv= .non from hR)
  refine iteB (ub rfl) ?_;rw [hz] at i;obtain⟨rfl,hl⟩:=(show mv= .str z/\z.length<=Vb from i)
  have ax:fs.length<1000:=by have:=f.len;omega
  refine⟨0,U.x,_,dx,fs,0,e,T.qR,T.yG,f.Yy,(sml rfl),λt1 ah=> ?_⟩;have m1:=qg ah (.tup [V.str "rule",V.str z]);have k1:Is (upd H t1 (.tup [V.str "rule",V.str z])) (.tup [.str "rule",.str z]) (.ref t1):=Is.new ⟨_,0,yU (),_,0,[1:hl],1⟩ ah
  refine[0:(sml rfl):λt2 ak=> ?_];have m2:=qg ak (.tup [V.ref t1,v]);have k2:=Is.new (ds:= [.tup [.str "rule",.str z],d]) ⟨_,0,k1,_,0,hv.mono m1.tk,1⟩ ak;refine[(sml rfl):λt3 al=> ?_];have m3:=qg al (.tup [V.ref t2]);have k3:=Is.new (ds:= [.tup [.tup [.str "rule",.str z],d]]) ⟨_,0,k2,1⟩ al;have s3:=(m1.trans m2).trans m3;exists 0,U.x,_,dx,fs,1,s3 _ _ e,T.qR,T.yT,ax;have iz:Is H (.str z) (.str z):=[1:hl];obtain⟨p1,p2⟩:=WE (C:=a.qK) (CM:=a.qo) (g:=U) (s:={st with ra:= [.tup [.tup [.str "rule",.str z],d]]}) (s3 _ _ e) (f.set_rule_asks (u:= .ref t3)) (by show Is _ st.mb _;rw [hz];exact iz.mono s3.tk) k3 (by show Wn _ _ _ _ st.run;rw [O];rfl) (l.mono s3.tk)
  erw[id p1,ac,ad,_,_,_,_,e3,f3,_];have am:=s3.tk.trans p2.tk;refine⟨0,U.x,ac,ad,1,e3,f3.meth _ (),0,U,_,v,d,1,p1,O,hn,hv.mono am,⟨ap,aq,p2.kept _ _ (s3 _ _ ho) ao,au⟩,λH4 s4 v4 G4 b4=>k H4 s4 [λb ob h n _=>v4.kept b ob (p2.kept b ob (s3 b ob h) n) n:am.trans v4.tk] G4 ⟨b4.mb,b4.ra,b4.lack,b4.rule,λrs h=> ?_⟩⟩
  erw[b4.go rs h,mc,c1,c2,c3,c4];have fr:∀b,upd (upd (upd (upd H t1 (.tup [V.str "rule",V.str z])) t2 (.tup [V.ref t1,v])) t3 (.tup [V.ref t2])) U.x (.ins a.qK dx (putF "rule_asks" (.ref t3) fs)) b=U_->H b=none:=λb hb=>by
   cases hc:H b with
   |none=>rfl
   |some ob=>
    by_cases c:b=U.x
    ·rw [c,qh] at hb;cases hb
    ·rw [p2.kept b ob (s3 b ob hc) c] at hb;cases hb
  exact⟨mc,fr _ c1,fr _ c2,fr _ c3,c4⟩
 ·rw [O] at hR;erw[hR,rfl,aB,hM];erw[id hM,dm,fm,aC,ru,tv,gv,em,ay,i1,i2,i3,i4,i5,i6];refine iteN (uc (λz=>by cases z)) ?_
  have aA:mc.own.length<=100:=by rw [aw];have:=kL hn;omega
  refine⟨0,U.x,_,dx,fs,0,e,T.qR,T.qW,f.Qu,mc.x,dm,fm,1,em,ay.meth _ (),0,mc,r,v,u,q,d,1,hM,af,ag,hv,ae,aA,aa,λH1 v1 M1=> ?_⟩
  ·have G1:=go_mv hG O v1 M1;erw[id G1,ac,ad,_,_,_,_,e3,f3,_];have hok:=ansS_ok (own:=mc.own) ae af (by rw [ag];show decide (("asks":Str)="asks")=v_;exact ub rfl) (ansB_ok aa)
   refine⟨0,U.x,ac,ad,1,e3,f3.meth _ (),U,_,mc,0,G1,1,.inr hok.two,λH2 v2 G2=>k H2 [λb ob h n1 n2=>v2.kept b ob (v1.kept b ob h (n2 mc r O).1 (n2 mc r O).2.1 (n2 mc r O).2.2) n1:v1.tk.trans v2.tk] G2⟩
noncomputable def gfs (n:Str)(o t:o3):oj (Str×V):= [("name",.str n),("order",.ref o),("made_by",.non),("rule_asks",.ref t),("rule_run",.non),("end",.non)]
theorem gfs_ok (n:Str)(o t:o3):GFl (gfs n o t) (.str n) (.ref o) .non (.ref t) .non .non:=by
 refine⟨1,1,1,1,1,1,?_,(by show 6<=20;decide)⟩
 intro m hm;simp only [GMT,uz,uD,uM] at hm;rcases hm with rfl|rfl|rfl|rfl|rfl<;>rfl
noncomputable def s0G:Gs:=⟨.non,[],U_,.non⟩
inductive sp_ginit (C CM CO:Addr) (vs:List V) (H:Hp) (Q:VK) (E_:XK):Prop
 |mk (x dx o:Addr) (n k:Str) (sv:V) (e:D) (_:vs= [.ref x,.str n,sv,.ref o]) (_:H x=u_ (.ins C dx [])) (_:Is H (.tup [.str k,e]) sv) (_:nm n=v_) (_:o≠x) (_:(∃dx fs,H o=u_ (.ins CO dx fs)/\fs.lookup ("runner":Str)=U_)) (_:∀H' s',(∀b ob,H b=u_ ob->b≠x->H' b=u_ ob)->Tk H H'->GoAt C CM H' ⟨x,o,n⟩ s'->(k="made"->s'={s0G with mb:=e})->(k≠"made"->BegOk H ⟨x,o,n⟩ e s0G s')->Q .non H')
theorem gen1 {x:o3}{fs:oj (Str×V)}{P:Hp->Prop}(e:H x=u_ (.ins C dx fs))(h:∀H1,H1 x=u_ (.ins C dx fs')->(∀b ob,H b=u_ ob->b≠x->H1 b=u_ ob)->Tk H H1->P H1):P (upd H x (.ins C dx fs')):=h _ qh (λb ob h n=>by rwa [qi n]) (Tk.updI e)
theorem ok_ginit (T:Tx K mg a)(C:Fx K w mg g a):#[K,10,a.JM,a.zW,["self","name","source","order"],(sp_ginit a.qK a.qo a.qp)]:=by
 have jG:=#[ok_begin,T,C];exists 9,T.g_Going_init,Ku
 erw[h,x,dx,o,n,k,sv,d,rfl,hx,aa,hn,nox,[ac,ad,ho,ae],q];have hs:=uB;exists _,%[#[Qc,pv 1],#[Qc,pv 3],#[Qc,qX],#[Qc,#[qE,qd]],#[Qc,qX],#[Qc,qX]|#[qI,#[qq,Qs,#[qH,qF,pv 2,ql],qm],%[|#[Qc,#[qH,qF,pv 2,ql]]],%[|#[qV,#[Qv,pv 0,T.qR,T.g_Going_begin,jG,#v[#[qH,qF,pv 2,ql]]]]]]]
 exists 7
 exists 0,0,x,_,dx,0,hx,T.qR,T.Yc,()
 refine gen1 (P:=tSeq _ _ _ _) hx λH1 x1 k1 t1=> ?_;refine⟨0,0,x,_,dx,0,x1,T.qR,T.Xx,by show 1<1000;decide,?_⟩
 refine gen1 (P:=tSeq _ _ _ _) x1 λH2 x2 k2 t2=> ?_;refine⟨0,x,_,dx,0,x2,T.qR,T.yG,by show 2<1000;decide,?_⟩
 refine gen1 (P:=tSeq _ _ _ _) x2 λH3 x3 k3 t3=> ?_;refine[sml rfl:λt ht=> ?_];have nxt:=(qk x3 ht).symm;have s4:=qg ht (.tup ([]:oj V));refine⟨0,x,_,dx,0,s4 _ _ x3,T.qR,T.yT,by show 3<1000;decide,?_⟩
 refine gen1 (P:=tSeq _ _ _ _) (s4 _ _ x3) λH5 x5 k5 t5=> ?_;refine⟨0,x,_,dx,0,x5,T.qR,T.qW,by show 4<1000;decide,?_⟩
 refine gen1 (P:=tSeq _ _ _ _) x5 λH6 x6 k6 t6=> ?_;refine⟨0,x,_,dx,0,x6,T.qR,T.Q2,by show 5<1000;decide,?_⟩
 refine gen1 (P:=λH=>_) x6 λH7 O k7 t7=> ?_;have kp:∀b ob,H b=u_ ob->b≠x->H7 b=u_ ob:=λb ob h nb=>k7 b ob (k6 b ob (k5 b ob (s4 b ob (k3 b ob (k2 b ob (k1 b ob h nb) nb) nb)) nb) nb) nb;have U:=(((((t1.trans t2).trans t3).trans s4.tk).trans t5).trans t6).trans t7;have O:H7 x=u_ (.ins a.qK dx (gfs n o t)):=O;have eT:H7 t=u_ (.tup ([]:oj V)):=k7 _ _ (k6 _ _ (k5 _ _ qh nxt) nxt) nxt;have i0:Is H7 (.tup []) (.ref t):=⟨t,[],1,eT,1⟩;have G0:GoAt a.qK a.qo H7 ⟨x,o,n⟩ s0G:=⟨dx,_,_,_,_,_,O,gfs_ok n o t,1,i0,1,1⟩;have af:=aa.mono U;erw[af,p,ws,rfl,hp,w1,r1,rfl,[rfl,ag],w2,r2,rfl,h2,h3];cases(show r2= [] from h3)
 exists 0,p,_,_,0,1,SqT.of hp,1,1,0;by_cases ck:k="made"
 ·refine iteB (ub (by rw [ck])) ⟨0,p,_,_,0,1,SqT.of hp,1,0,x,_,dx,0,O,T.qR,T.yG,(by show 6<1000;decide),?_⟩
  erw[WE (C:=a.qK) (CM:=a.qo) (g:=[x:o:n]) (s:={s0G with mb:=d}) O ((gfs_ok n o t).set_made_by (u:=w2)) h2 i0 rfl rfl,p1,p2]
  exact q _ _ (λb ob h nb=>p2.kept b ob (kp b ob h nb) nb) (U.trans p2.tk) p1 (λ_=>rfl) λz=>absurd ck z
 ·refine iteN (uc (λz=>ck (V.str.inj z))) ?_;refine⟨0,x,dx,0,O,(gfs_ok n o t).meth _ (),0,p,_,_,0,1,SqT.of hp,1,[x:o:n],s0G,w2,d,1,G0,1,hn,h2,⟨ac,ad,kp _ _ ho nox,ae⟩,λH8 s8 v8 G8 b8=>q H8 s8 (λb ob h nb=>v8.kept b ob (kp b ob h nb) nb) (U.trans v8.tk) G8 (λz=>absurd z ck) λ_=>⟨b8.mb,b8.ra,b8.lack,b8.rule,λrs h=> ?_⟩⟩
  erw[b8.go rs h,mc,c1,c2,c3,c4];have fr:∀b,H7 b=U_->H b=none:=λb hb=>by
   cases hc:H b with
   |none=>rfl
   |some ob=>
    by_cases c:b=x
    ·rw [c,O] at hb;cases hb
    ·rw [kp b ob hc c] at hb;cases hb
  exact⟨mc,fr _ c1,fr _ c2,fr _ c3,c4⟩
noncomputable def ww:D->D
 | .non=> .tup [.str "lack"]
 | .tup [.str k,e]=>if k="leaf" then .tup [.str "value",e] else .non
 |_=> .non
noncomputable def YI:D->D
 | .tup [.str k,e]=>if k="said" then .tup [.str "value",e] else .tup [.str k,e]
 |d=>d
inductive sp_once (vs:List V) (H:Hp) (Q:VK) (E_:XK):Prop
 |mk (v:V) (d:D) (_:vs= [v]) (_:Is H d v) (_:(d= .non∨∃k e,d= .tup [.str k,e])) (_:∀u H',Same H H'->Is H' (ww d) u->Q u H')
inductive sp_ansby (vs:List V) (H:Hp) (Q:VK) (E_:XK):Prop
 |mk (v:V) (k:Str) (e:D) (_:vs= [v]) (_:Is H (.tup [.str k,e]) v) (_:∀u H',Same H H'->Is H' (YI (.tup [.str k,e])) u->Q u H')
theorem ok_ansby (T:Tx K mg a):#[K,1,a.Z7,a.ZI,["end"],sp_ansby]:=by
 exists 9,T.g_answer_by,sc_answer_by
 erw[h,v,k,e,rfl,U,q];have hs:=uB;have O:=U;erw[U,p,ws,rfl,hp,w1,r1,rfl,[rfl,aa],w2,r2,rfl,h2,h3];cases(show r2= [] from h3)
 exists _,%[|#[qt,#[ye,#[qq,Qs,#[qH,qF,pv 0,ql],qm],#[qE,#v[qm,#[qH,qF,pv 0,ql]]],pv 0]]]
 exists 7
 exists 0,p,_,_,0,1,SqT.of hp,1,1,0;by_cases c:k="said"
 ·refine iteB (ub (by rw [c])) ⟨0,p,_,_,0,1,SqT.of hp,1,(sml rfl),λt ht=> ?_⟩
  refine q _ _ (qg ht _) ?_;unfold YI;dsimp only;rw [A5 c];exact Is.new ⟨_,0,yU (),_,0,h2,1⟩ ht
 ·refine iteN (uc (λz=>c (V.str.inj z))) [0:q _ H (Same.refl _) ?_];unfold YI;dsimp only;rw [A4 c];exact O
theorem ok_once (T:Tx K mg a):#[K,1,a.jQ,a.jS,["source"],sp_once]:=by
 exists 9,T.g_answer_at_once,zl
 erw[h,v,d,rfl,U,hd,q];have hs:=uB;exists _,%[#[qI,#[qq,Ym,pv 0,qX],%[|#[qt,#[qE,#v[qm]]]],qv]|#[qt,#[ye,#[qq,Qs,#[qH,qF,pv 0,ql],qm],#[qE,#v[qm,#[qH,qF,pv 0,ql]]],qX]]]
 exists 7
 exists 0,1,0;rcases hd with rfl|⟨k,e,rfl⟩
 ·cases(show v= .non from U)
  refine iteB (ub rfl) [(sml rfl):λt O=> ?_];exact q _ _ (qg O _) (Is.new ⟨_,0,yU (),1⟩ O)
 ·erw[U,p,ws,rfl,hp,w1,r1,rfl,[rfl,aa],w2,r2,rfl,h2,h3];cases(show r2= [] from h3)
  refine iteN (uc (λz=>by cases z)) ?_
  exists 0,p,_,_,0,1,SqT.of hp,1,1,0;by_cases c:k="leaf"
  ·refine iteB (ub (by rw [c])) ⟨0,p,_,_,0,1,SqT.of hp,1,(sml rfl),λt O=> ?_⟩
   refine q _ _ (qg O _) ?_;unfold ww;dsimp only;rw [A5 c];exact Is.new ⟨_,0,yU (),_,0,h2,1⟩ O
  ·refine iteN (uc (λz=>c (V.str.inj z))) (q _ H (Same.refl _) ?_);unfold ww;dsimp only;rw [A4 c];exact(rfl:V.non=V.non)
end
structure Sy where
 G:Type
 fin:G->Bool
 want:G->om Str
 own:G->G
 tk:G->om D->G
 stuck:G->Str->G
 said:G->om D
 g0:Str->om G
 once:Str->om D
 lft:G->Nat
 M:Nat
 ns:oj Str
structure Sy.Ok (Y:Sy):Prop where
 fs:∀g m,Y.fin (Y.stuck g m)=v_
 ss:∀g m,Y.said (Y.stuck g m)=U_
 sf:∀g v,Y.said g=u_ v->Y.fin g=v_
 lo:∀g,Y.fin g=V7->Y.want g=U_->Y.lft (Y.own g)<Y.lft g
 lt:∀g m a,Y.fin g=V7->Y.want g=u_ m->Y.lft (Y.tk g a)<Y.lft g
 lk:∀g m,Y.fin g=V7->Y.lft (Y.stuck g m)<Y.lft g
 l0:∀m g,Y.g0 m=u_ g->Y.lft g<=Y.M
 gn:∀m g,Y.g0 m=u_ g->m∈Y.ns
namespace Sy
variable {Y:Sy}
noncomputable abbrev Orc:=Str->om (om D)
noncomputable def step (Y:Sy)(f:Orc)(g:Y.G):Y.G:=if Y.fin g=v_ then g else match Y.want g with
 |none=>Y.own g
 |some m=>match f m with
  |some a=>Y.tk g a
  |none=>Y.stuck g m
noncomputable def it (Y:Sy)(f:Orc):Nat->Y.G->Y.G
 |0,g=>g
 |k+1,g=>it Y f k (step Y f g)
variable {f:Orc}
theorem ZA {g:Y.G}(h:Y.fin g=v_):step Y f g=g:=by unfold step;rw [A5 h]
theorem Zl {f:Orc}{g:Y.G}(h:Y.fin g=v_):∀k,it Y f k g=g
 |0=>rfl
 |k+1=>by show it Y f k (step Y f g)=g;rw [ZA h];exact Zl h k
theorem W6 {f:Orc}:∀(k j:Nat) (g:Y.G),it Y f (k+j) g=it Y f j (it Y f k g)
 |0,j,g=>by rw [G_];rfl
 |k+1,j,g=>by
  rw [Nat.add_right_comm];show it Y f (k+j) (step Y f g)=_;rw [W6 k j]
  rfl
theorem it_snoc (k:Nat)(g:Y.G):it Y f (k+1) g=step Y f (it Y f k g):=W6 k 1 g
theorem Zw (h:Y.Ok){g:Y.G}(O:Y.fin g=V7):Y.lft (step Y f g)<Y.lft g:=by
 unfold step;rw [O,A4 u9];cases U:Y.want g with
 |none=>exact h.lo g O U
 |some m=>
  show Y.lft (match f m with|some a=>Y.tk g a|none=>Y.stuck g m)<_
  cases f m with
  |some a=>exact h.lt g m a O U
  |none=>exact h.lk g m O
theorem it_end (h:Y.Ok){f:Orc}:∀(k:Nat) (g:Y.G),Y.lft g<=k->Y.fin (it Y f k g)=v_
 |0,g,hl=>by
  show Y.fin g=v_;cases O:Y.fin g with
  |true=>rfl
  |false=>have:=Zw (f:=f) h O;omega
 |k+1,g,hl=>by
  show Y.fin (it Y f k (step Y f g))=v_;cases O:Y.fin g with
  |true=>rw [ZA O,Zl O];exact O
  |false=>exact it_end h k _ (by have:=Zw (f:=f) h O;omega)
variable {j:Nat}
theorem it_one {g:Y.G}{k:Nat}(O:Y.fin (it Y f k g)=v_)(U:Y.fin (it Y f j g)=v_):it Y f k g=it Y f j g:=by
 rcases tF k j with h|h
 ·erw[GM h,d,rfl];rw [W6,Zl O]
 ·erw[GM h,d,rfl];rw [W6,Zl U]
theorem it_mono (h:Y.Ok){f f':Orc}(hm:∀m a,f m=u_ a->f' m=u_ a):∀(k:Nat) (g:Y.G),it Y f' k g=it Y f k g∨((∀j,it Y f j (it Y f k g)=it Y f k g)/\Y.said (it Y f k g)=U_)
 |0,g=> .inl rfl
 |k+1,g=>by
  show it Y f' k (step Y f' g)=it Y f k (step Y f g)∨_;by_cases c:step Y f' g=step Y f g
  ·rw [c];exact it_mono h hm k _
  ·right;have U:Y.fin g=false:=by
    cases U:Y.fin g with
    |false=>rfl
    |true=>exact absurd (by rw [ZA U,ZA U]) c
   have e:∃m,step Y f g=Y.stuck g m:=by
    unfold step at c⊢;rw [U,A4 u9] at c⊢;rw [A4 u9] at c;cases hw:Y.want g with
    |none=>rw [hw] at c;exact absurd rfl c
    |some m=>
     rw [hw] at c;simp only at c⊢;cases O:f m with
     |none=>exact[m:1]
     |some a=>rw [O,hm m a O] at c;exact absurd rfl c
   erw[e,m,e];have e2:it Y f (k+1) g=Y.stuck g m:=by
    show it Y f k (step Y f g)=_;rw [e];exact Zl (h.fs g m) k
   rw [e2];exact[Zl (h.fs g m):h.ss g m]
theorem Wf (h:Y.Ok){f':Orc}(hm:∀m a,f m=u_ a->f' m=u_ a){k:Nat}{g:Y.G}{v:D}(O:Y.said (it Y f k g)=u_ v):it Y f' k g=it Y f k g:=by
 rcases it_mono h hm k g with e|⟨_,e⟩
 ·exact e
 ·rw [O] at e;cases e
noncomputable def Fh (Y:Sy):Nat->Orc
 |0,m=>match Y.g0 m with
  |none=>u_ (Y.once m)
  |some _=>U_
 |h+1,m=>match Y.g0 m with
  |none=>u_ (Y.once m)
  |some g=>(Y.said (it Y (Fh Y h) Y.M g)).map u_
variable {m:Str}
theorem xT (h:Y.g0 m=U_):∀k,Fh Y k m=u_ (Y.once m)
 |0=>by simp only [Fh,h]
 |k+1=>by simp only [Fh,h]
theorem WA {g:Y.G}(h:Y.g0 m=u_ g)(k:Nat):Fh Y (k+1) m=(Y.said (it Y (Fh Y k) Y.M g)).map some:=by simp only [Fh,h]
theorem Z4 {g:Y.G}(h:Y.g0 m=u_ g):Fh Y 0 m=none:=by simp only [Fh,h]
theorem Fh_succ (h:Y.Ok):∀(k:Nat) (m:Str) (a:om D),Fh Y k m=u_ a->Fh Y (k+1) m=u_ a
 |0,m,a,e=>by
  cases O:Y.g0 m with
  |none=>rw [xT O] at e⊢;exact e
  |some g=>rw [Z4 O] at e;cases e
 |k+1,m,a,e=>by
  cases O:Y.g0 m with
  |none=>rw [xT O] at e⊢;exact e
  |some g=>
   rw [WA O] at e⊢;cases U:Y.said (it Y (Fh Y k) Y.M g) with
   |none=>rw [U] at e;cases e
   |some v=>
    rw [Wf h (Fh_succ h k) U];exact e
theorem Fh_le (h:Y.Ok){k:Nat}(O:k<=j){a:om D}(e:Fh Y k m=u_ a):Fh Y j m=u_ a:=by
 erw[GM O,d,rfl]
 induction d with
 |zero=>exact e
 |succ d U=>exact Fh_succ h _ _ _ (U ())
open Classical in
noncomputable def F (Y:Sy):Orc:=λm=>if h:∃a k,Fh Y k m=u_ a then u_ (choose h) else U_
theorem F_iff (h:Y.Ok){a:om D}:F Y m=u_ a↔∃k,Fh Y k m=u_ a:=by
 unfold F;constructor
 ·intro e;by_cases c:∃a k,Fh Y k m=u_ a
  ·rw [dif_pos c] at e;have:=rJ c;rwa [uF e] at this
  ·rw [dif_neg c] at e;cases e
 ·rintro⟨k,e⟩;have c:∃a k,Fh Y k m=u_ a:=[a:k:e];rw [dif_pos c];erw[rJ c,j,U];have e3:=Fh_le h (Nat.le_max_left k j) e;have O:=Fh_le h (Nat.le_max_right k j) U;rw [e3] at O;exact O.symm
theorem F_of (h:Y.Ok){k:Nat}{a:om D}(e:Fh Y k m=u_ a):F Y m=u_ a:=(F_iff h).mpr [k:e]
theorem F_once (h:Y.Ok)(O:Y.g0 m=U_):F Y m=u_ (Y.once m):=F_of h (xT O 0)
theorem step_near (h:Y.Ok)(g:Y.G):∃k,∀j,k<=j->step Y (Fh Y j) g=step Y (F Y) g:=by
 unfold step;by_cases U:Y.fin g=v_
 ·exact⟨(0),λj _=>by rw [A5 U,A5 U]⟩
 ·cases hw:Y.want g with
  |none=>exact[(0):λj _=>rfl]
  |some m=>
   cases O:F Y m with
   |some a=>
    erw[(F_iff h).mp O,k,e];exact⟨k,λj hj=>by simp only [Fh_le h hj e,O]⟩
   |none=>
    refine[(0):λj _=> ?_];have:Fh Y j m=none:=by
     cases e:Fh Y j m with
     |none=>rfl
     |some a=>rw [F_of h e] at O;cases O
    simp only [this,O]
theorem it_near (h:Y.Ok):∀(n:Nat) (g:Y.G),∃k,∀j,k<=j->it Y (Fh Y j) n g=it Y (F Y) n g
 |0,g=>[(0):λ_ _=>rfl]
 |n+1,g=>by
  erw[step_near h g,k1,h1];erw[it_near h n (step Y (F Y) g),k2,h2];refine[max k1 k2:λj O=> ?_];show it Y (Fh Y j) n (step Y (Fh Y j) g)=it Y (F Y) n (step Y (F Y) g);rw [h1 j (),h2 j ()]
theorem F_run (h:Y.Ok){g:Y.G}(U:Y.g0 m=u_ g):F Y m=(Y.said (it Y (F Y) Y.M g)).map some:=by
 cases hs:Y.said (it Y (F Y) Y.M g) with
 |some v=>
  erw[it_near h Y.M g,k,e];refine F_of h (k:=k+1) ?_;rw [WA U,e k (uh _),hs]
  rfl
 |none=>
  show F Y m=U_;cases e:F Y m with
  |none=>rfl
  |some a=>
   erw[(F_iff h).mp e,k,e];cases k with
   |zero=>rw [Z4 U] at e;cases e
   |succ k=>
    rw [WA U] at e;cases O:Y.said (it Y (Fh Y k) Y.M g) with
    |none=>rw [O] at e;cases e
    |some v=>
     rw [<-Wf h (λm a q=>F_of h q) O,hs] at O;cases O
noncomputable def Wt (Y:Sy)(n m:Str):Prop:=∃g k,Y.g0 n=u_ g/\Y.fin (it Y (F Y) k g)=V7/\Y.want (it Y (F Y) k g)=u_ m
theorem wt_less (h:Y.Ok){n:Str}(w:Wt Y n m){k:Nat}{a:om D}(e:Fh Y k n=u_ a):∃j b,j<k/\Fh Y j m=u_ b:=by
 erw[w,g,i,hg,hf,hw];cases k with
 |zero=>rw [Z4 hg] at e;cases e
 |succ k=>
  exists k;rw [WA hg] at e;cases U:Y.said (it Y (Fh Y k) Y.M g) with
  |none=>rw [U] at e;cases e
  |some v=>
   have O:=h.sf _ _ U;have eM:=Wf h (f':=F Y) (λm a q=>F_of h q) U;rcases it_mono h (f:=Fh Y k) (f':=F Y) (λm a q=>F_of h q) i g with ei|⟨ei,es⟩
   ·rw [ei] at hf hw;cases hm:Fh Y k m with
    |some b=>exact[b:V0 k:1]
    |none=>
     have e1:it Y (Fh Y k) (i+1) g=Y.stuck (it Y (Fh Y k) i g) m:=by
      rw [it_snoc];unfold step;rw [hf,A4 u9,hw];simp only [hm]
     have e2:Y.fin (it Y (Fh Y k) (i+1) g)=true:=by rw [e1];exact h.fs _ _
     rw [<-it_one e2 O,e1,h.ss] at U;cases U
   ·have aa:it Y (Fh Y k) (i+Y.M) g=it Y (Fh Y k) i g:=by rw [W6];exact ei _
    have e3:it Y (Fh Y k) (Y.M+i) g=it Y (Fh Y k) Y.M g:=by rw [W6];exact Zl O i
    rw [<-e3,rZ,aa,es] at U;cases U
inductive Wts (Y:Sy):Str->Str->Prop
 |one {n m:Str}:Wt Y n m->Wts Y n m
 |more {n m l:Str}:Wts Y n m->Wt Y m l->Wts Y n l
theorem wts_less (h:Y.Ok){n:Str}(w:Wts Y n m):∀{k:Nat}{a:om D},Fh Y k n=u_ a->∃j b,j<k/\Fh Y j m=u_ b:=by
 induction w with
 |one w=>exact λe=>wt_less h w e
 |more _ w O=>
  intro k a e;erw[O e,j,b,hj,U];erw[wt_less h w U,i,c,hi,e2];exact⟨i,c,(),e2⟩
theorem Xr (h:Y.Ok){n:Str}(w:Wts Y n n):F Y n=none:=by
 have O:∀k a,Fh Y k n≠u_ a:=by
  intro k
  induction k using HU with
  |_ k U=>
   intro a e;erw[wts_less h w e,j,b,hj,e1];exact U j hj b e1
 cases e:F Y n with
 |none=>rfl
 |some a=>
  erw[(F_iff h).mp e,k,e];exact absurd e (O k a)
structure Ss (Y:Sy) where
 stk:oj (Str×Y.G)
 don:oj (Str×Y.G)
noncomputable def Y2 (l:oj (Str×Y.G))(m:Str):om Y.G:=(l.find? λp=>decide (p.1=m)).map (·.2)
noncomputable def yet (S:Ss Y)(m:Str):om (om (om D)):=if m∈S.stk.map (·.1) then u_ U_ else match Y.g0 m with
 |none=>u_ (u_ (Y.once m))
 |some _=>(Y2 S.don m).map λg=>(Y.said g).map u_
noncomputable def nxt (S:Ss Y):Ss Y:=match S.stk with
 | []=>S
 |(n,g)::r=>if Y.fin g=v_ then[r:S.don++ [(n,g)]] else match Y.want g with
  |none=>[(n,Y.own g)::r:S.don]
  |some m=>match yet S m with
   |some (u_ a)=>[(n,Y.tk g a)::r:S.don]
   |some U_=>[(n,Y.stuck g m)::r:S.don]
   |none=>match Y.g0 m with
    |some g'=>[(m,g')::(n,g)::r:S.don]
    |none=>S
noncomputable def nx (S:Ss Y):Nat->Ss Y
 |0=>S
 |k+1=>nxt (nx S k)
noncomputable def rest (S:Ss Y):oj Str:=Y.ns.filter λm=>decide (m∉S.stk.map (·.1))&&decide (m∉S.don.map (·.1))
noncomputable def lfts:oj (Str×Y.G)->Nat
 | []=>0
 |(_,g)::r=>Y.lft g+1+lfts r
noncomputable def mu (S:Ss Y):Nat:=lfts S.stk+(Y.M+2)*(rest S).length
variable {S:Ss Y}
theorem J3 (h:yet S m=U_):m∉S.stk.map (·.1)/\(∃g,Y.g0 m=u_ g)/\m∉S.don.map (·.1):=by
 unfold yet at h;by_cases c:m∈S.stk.map (·.1)
 ·rw [A5 c] at h;cases h
 ·rw [A4 c] at h;cases O:Y.g0 m with
  |none=>rw [O] at h;cases h
  |some g=>
   rw [O] at h;simp only [Uo] at h;refine[c:[g:1]:λhm=> ?_];erw[Ab.mp hm,p,U,rfl];have h3:(S.don.find? λq=>decide (q.1=p.1))=none:=by simpa [Y2] using h
   rw [U4] at h3;exact h3 p U (by simp)
variable {l:oj Str}
theorem jy {p q:Str->Bool}(hl:m∈l)(hp:p m=v_)(hq:q m=V7)(O:∀x,q x=v_->p x=v_):(l.filter q).length<(l.filter p).length:=by
 induction l with
 |nil=>cases hl
 |cons x r U=>
  have le:(r.filter q).length<=(r.filter p).length:=by
   clear U hl
   induction r with
   |nil=>exact uh _
   |cons y r U=>
    rw [vA,vA];cases h1:q y with
    |true=>rw [O y h1,A5 rfl,A5 rfl];simp only [ui];omega
    |false=>
     rw [A4 u9];split
     ·simp only [ui];omega
     ·exact U
  rw [vA,vA];rcases A8.mp hl with rfl|hm
  ·rw [hp,hq,A5 rfl,A4 u9,ui];omega
  ·have:=U hm;cases h1:q x with
   |true=>rw [O x h1,A5 rfl,A5 rfl];simp only [ui];omega
   |false=>
    rw [A4 u9];split
    ·simp only [ui];omega
    ·exact this
theorem nxt_mu (h:Y.Ok)(hs:S.stk≠ []):mu (nxt S)<mu S:=by
 erw[S,stk,don];cases stk with
 |nil=>exact absurd rfl hs
 |cons p r=>
  erw[p,n,g];have same:∀g',Y.lft g'<Y.lft g->mu (⟨(n,g')::r,don⟩:Ss Y)<mu ⟨(n,g)::r,don⟩:=by
   intro g' hl;show Y.lft g'+1+lfts r+(Y.M+2)*_<Y.lft g+1+lfts r+(Y.M+2)*_;have e:rest (⟨(n,g')::r,don⟩:Ss Y)=rest ⟨(n,g)::r,don⟩:=rfl;rw [e];omega
  unfold nxt;simp only;cases O:Y.fin g with
  |true=>
   rw [A5 rfl];show lfts r+(Y.M+2)*_<Y.lft g+1+lfts r+(Y.M+2)*_;have e:rest (⟨r,don++ [(n,g)]⟩:Ss Y)=rest ⟨(n,g)::r,don⟩:=by
    unfold rest
    congr 1
    funext x
    simp only [Vc,uq,U0,vM,uz,uD,uM,<-Bool.decide_and];rw [uZ];constructor
    ·rintro⟨a,b⟩;exact[λz=>z.elim (λz=>b (.inr z)) a:λz=>b (.inl z)]
    ·rintro⟨a,b⟩;exact[λz=>a (.inr z):λz=>z.elim b λz=>a (.inl z)]
   rw [e];omega
  |false=>
   rw [A4 u9];cases hw:Y.want g with
   |none=>exact same _ (h.lo g O hw)
   |some m=>
    simp only;cases hy:yet ([(n,g)::r:don]:Ss Y) m with
    |some o=>
     cases o with
     |some a=>exact same _ (h.lt g m a O hw)
     |none=>exact same _ (h.lk g m O)
    |none=>
     simp only;erw[J3 hy,h1,[g',U],h2];rw [U];show Y.lft g'+1+(Y.lft g+1+lfts r)+(Y.M+2)*(rest ([(m,g')::(n,g)::r:don]:Ss Y)).length<Y.lft g+1+lfts r+(Y.M+2)*(rest ([(n,g)::r:don]:Ss Y)).length;have e:(rest (⟨(m,g')::(n,g)::r,don⟩:Ss Y)).length<(rest (⟨(n,g)::r,don⟩:Ss Y)).length:=by
      refine jy (m:=m) (h.gn m g' U) ?_ ?_ ?_
      ·simp only [ur,uH];exact[h1:h2]
      ·simp
      ·intro x hx;simp only [ur,uH] at hx⊢;exact[λz=>hx.1 (ue _ z):hx.2]
     have l0:=h.l0 m g' U;have e2:=Nat.mul_le_mul_left (Y.M+2) (Nat.succ_le_of_lt e);rw [Nat.mul_succ] at e2;omega
noncomputable def Chn (Y:Sy):oj (Str×Y.G)->Prop
 | []=>True
 |(n,g)::r=>(∃s k,Y.g0 n=u_ s/\g=it Y (F Y) k s)/\Chn Y r/\∀p r',r=p::r'->Y.fin p.2=V7/\Y.want p.2=u_ n
structure SOk (n0:Str)(S:Ss Y):Prop where
 chn:Chn Y S.stk
 nd:(S.stk.map (·.1)++S.don.map (·.1)).Nodup
 don:∀p∈S.don,∃s,Y.g0 p.1=u_ s/\p.2=it Y (F Y) Y.M s
 bot:(S.stk.map (·.1)).getLast? =u_ n0∨S.stk= []/\(S.don.map (·.1)).getLast? =u_ n0
theorem chn_wts {n:Str}{g:Y.G}:∀{r:oj (Str×Y.G)}{m:Str},Chn Y ((n,g)::r)->m∈r.map (·.1)->Wts Y m n:=by
 intro r
 induction r generalizing n g with
 |nil=>intro m _ h;cases h
 |cons p r ih=>
  intro m hc hm;erw[p,O,g'];erw[hc,_,U,c3];erw[c3 (O,g') r rfl,f1,w1];erw[U.1,s,k,hs,hk];have w:Wt Y O n:=⟨s,k,hs,by rwa [<-hk],by rwa [<-hk]⟩
  rcases A8.mp hm with rfl|hm
  ·exact .one w
  ·exact .more (ih U hm) w
theorem zT {l:oj (Str×Y.G)}{g:Y.G}(h:Y2 l m=u_ g):(m,g)∈l:=by
 unfold Y2 at h;cases e:l.find? λp=>decide (p.1=m) with
 |none=>rw [e] at h;cases h
 |some p=>
  rw [e] at h;cases uF h;have:=Hs e;have hm:p.1=m:=um this;rw [<-hm];exact U9 e
variable {n0:Str}
theorem nxt_ok (h:Y.Ok)(hs:SOk n0 S):SOk n0 (nxt S):=by
 erw[S,stk,don];cases stk with
 |nil=>exact hs
 |cons p r=>
  erw[p,n,g];erw[hs,chn,nd,O,bot];erw[chn,[s,k,U,hk],c2,c3];have on:∀g',Y.fin g=V7->step Y (F Y) g=g'->SOk n0 (⟨(n,g')::r,don⟩:Ss Y):=by
   intro g' hf e;refine⟨[⟨s,k+1,U,?_⟩:c2:c3],nd,O,.inl ?_⟩
   ·rw [it_snoc,<-hk,e]
   ·rcases bot with b|⟨b,_⟩
    ·exact b
    ·cases b
  unfold nxt;simp only;cases hf:Y.fin g with
  |true=>
   rw [A5 rfl];refine⟨c2,?_,λq hq=> ?_,?_⟩
   ·show(r.map (·.1)++(don++ [(n,g)]).map (·.1)).Nodup;have ac:(n::(r.map (·.1)++don.map (·.1))).Nodup:=nd;rw [Vc,<-Ud];show((r.map (·.1)++don.map (·.1))++ [n]).Nodup;exact(T1 (l₁:= [n]) (l₂:=r.map (·.1)++don.map (·.1))).nodup_iff.mp ac
   ·rcases Aa.mp hq with hq|hq
    ·exact O q hq
    ·cases A9.mp hq;exists s,U;show g=_;rw [hk];refine it_one (by rwa [<-hk]) (it_end h _ _ (h.l0 n s U))
   ·rcases bot with b|⟨b,_⟩
    ·cases r with
     |nil=>
      right;exists 1;have hn:n=n0:=by simpa using b
      show((don++ [(n,g)]).map (·.1)).getLast? =u_ n0;rw [Vc,hn];simp
     |cons q r=>
      left
      simpa [US] using b
    ·cases b
  |false=>
   rw [A4 u9];have aa:step Y (F Y) g=match Y.want g with
     |none=>Y.own g
     |some m=>match F Y m with
      |some a=>Y.tk g a
      |none=>Y.stuck g m:=by
    unfold step;rw [hf,A4 u9]
   cases hw:Y.want g with
   |none=>exact on _ hf (by rw [aa,hw])
   |some m=>
    rw [hw] at aa;simp only at aa⊢;cases hy:yet ([(n,g)::r:don]:Ss Y) m with
    |some o=>
     have hF:F Y m=o:=by
      unfold yet at hy;by_cases c:m∈((n,g)::r).map (·.1)
      ·rw [A5 c] at hy;cases hy;have w:Wt Y n m:=⟨s,k,U,by rwa [<-hk],by rwa [<-hk]⟩
       rcases A8.mp c with rfl|hm
       ·exact Xr h (.one w)
       ·exact Xr h (.more (chn_wts (g:=g) [⟨s,k,U,hk⟩:c2:c3] hm) w)
      ·rw [A4 c] at hy;cases hg:Y.g0 m with
       |none=>
        rw [hg] at hy;cases hy;exact F_once h hg
       |some gm=>
        rw [hg] at hy;simp only at hy;cases hd:Y2 don m with
        |none=>rw [hd] at hy;cases hy
        |some gd=>
         rw [hd] at hy;cases hy;erw[O _ (zT hd),s',e1,e2];rw [hg] at e1;cases e1;have e3:gd=it Y (F Y) Y.M gm:=e2;rw [F_run h hg,e3]
     cases o with
     |some a=>exact on _ hf (by rw [aa,hF])
     |none=>exact on _ hf (by rw [aa,hF])
    |none=>
     simp only;erw[J3 hy,h1,[g',hg],h2];rw [hg];refine⟨[⟨g',(0),hg,1⟩:[⟨s,k,U,hk⟩:c2:c3]:λq r' e=> ?_],?_,O,.inl ?_⟩
     ·cases e;exact[hf:hw]
     ·show(m::(((n,g)::r).map (·.1)++don.map (·.1))).Nodup;rw [Uz];refine[λz=> ?_:nd];rcases Aa.mp z with z|z
      ·exact h1 z
      ·exact h2 z
     ·rcases bot with b|⟨b,_⟩
      ·show(m::n::r.map (·.1)).getLast? =u_ n0;rwa [US]
      ·cases b
theorem nx_ok (h:Y.Ok){n0:Str}{S:Ss Y}(O:SOk n0 S):∀k,SOk n0 (nx S k)
 |0=>O
 |k+1=>nxt_ok h (nx_ok h O k)
theorem nx_stop {S:Ss Y}{k:Nat}(h:(nx S k).stk= []):∀j,nx S (k+j)=nx S k
 |0=>rfl
 |j+1=>by
  show nxt (nx S (k+j))=_;rw [nx_stop h j];unfold nxt;rw [h]
theorem nx_one {k:Nat}(O:(nx S k).stk= [])(U:(nx S j).stk= []):nx S k=nx S j:=by
 rcases tF k j with h|h
 ·erw[GM h,d,rfl];exact(nx_stop O d).symm
 ·erw[GM h,d,rfl];exact nx_stop U d
noncomputable def S0 (Y:Sy)(n:Str):Ss Y:=match Y.g0 n with
 |none=>[[]:[]]
 |some g=>[[(n,g)]:[]]
theorem S0_ok {n:Str}{g:Y.G}(O:Y.g0 n=u_ g):SOk n (S0 Y n):=by
 unfold S0;rw [O];exact⟨⟨⟨g,(0),O,1⟩,trivial,λ_ _ e=>by cases e⟩,by simp,λ_ h=>(by cases h),.inl rfl⟩
end Sy
end K23
namespace K23
open PySem L2 PyProof.Rows
noncomputable def ThS (d:D):Prop:=(∃z,d=flt z)∨(∃e,d= .tup [.str "said",e]/\isT e=v_)∨∃(u z:Str),d= .tup [.str "asks",.tup [.str u,.str z]]/\isT (.str z)=v_/\(u="names"∨(u="thing"∨u="has")/\nm z=v_)
theorem isNm_st {d:D}(h:isNm d=v_):∃z,d= .str z/\nm z=true:=by
 cases d with
 |str z=>exact[z:1:h]
 |_=>cases h
variable {own:Str}{n:Nat}{r:Rw}{e:D}
theorem rowO_sh {B:Str->D}{p:Int}(hr:j7 n 300 r)(h:Tr B)(O:rowO own r B p= .stop e):ThS e:=by
 unfold rowO at O;erw[id hr,ks,hk,hp];erw[r,U,ps];by_cases c1:U∈MKR
 ·rw [A5 c1] at O;simp only at O;generalize made U B own ps=dm at O;have aa:(if isT dm=v_ then Out.go (setB B (b0 ps) dm) (p+1) else .stop (flt "big"))= .stop e->ThS e:=by
   intro hq;by_cases c:isT dm=v_
   ·rw [A5 c] at hq;cases hq
   ·rw [A4 c] at hq;cases hq;exact .inl ⟨0⟩
  cases dm with
  |non=>cases O;exact .inl ⟨0⟩
  |_=>exact aa O
 rw [A4 c1] at O;by_cases c2:U∈ASK
 ·rw [A5 c2] at O;cases O;erw[ZY _ hk c2,_,_,ek];simp only at ek;subst ek;erw[Z3 hp,z0,z1,rfl,h0,h1];have hT:=h z1 h1;show ThS (askF U (B z1));unfold askF;by_cases d1:U="names"
  ·rw [A5 d1];by_cases d2:isStr (B z1)=v_
   ·rw [A5 d2];obtain⟨z,ez⟩:∃z,B z1= .str z:=by
     cases hb:B z1 with
     |str z=>exact[z:1]
     |_=>rw [hb] at d2;cases d2
    rw [ez] at hT⊢;exact .inr (.inr ⟨_,z,1,hT,.inl rfl⟩)
   ·rw [A4 d2];exact .inl ⟨0⟩
  ·rw [A4 d1];by_cases d2:isNm (B z1)=v_
   ·rw [A5 d2];erw[isNm_st d2,z,ez,hz];rw [ez] at hT⊢;refine .inr (.inr ⟨_,z,1,hT,.inr [?_:hz]⟩);split
    ·exact .inl rfl
    ·exact .inr rfl
   ·rw [A4 d2];exact .inl ⟨0⟩
 rw [A4 c2] at O;by_cases c3:U="say"
 ·rw [A5 c3] at O;cases O;subst c3;have ek:=frm_say _ hk rfl;simp only at ek;subst ek;erw[sh_b hp,z0,rfl,h0];exact .inr (.inl [0:h z0 h0])
 rw [A4 c3] at O;by_cases c4:U="fault"
 ·rw [A5 c4] at O;cases O;exact .inl ⟨0⟩
 rw [A4 c4] at O;by_cases c5:jump U B ps=v_
 ·rw [A5 c5] at O;cases O
 ·rw [A4 c5] at O;cases O
theorem runS_sh {rs:oj Rw}{own:Str}(U:yb rs):∀(f:Nat) (B:Str->D) (p:Int) (n:Nat) (gs:oj D),Tr B->1<=p->p<=rs.length+1->ThS (runS rs own gs f B p n).th
 |0,B,p,n,gs,hT,h1,h2=>by
  show ThS (if p>rs.length then flt "silent" else flt "long")
  split<;>exact .inl ⟨0⟩
 |f+1,B,p,n,gs,hT,h1,h2=>by
  unfold runS;by_cases c:p>rs.length
  ·rw [A5 c];exact .inl ⟨0⟩
  ·rw [A4 c];have O:=U.ok _ (Kb h1 ())
   have hok:=rowO_ok (own:=own) O hT h1 ()
   cases hO:rowO own (jZ rs p) B p with
   |go B' p'=>
    rw [hO] at hok;exact runS_sh U f B' p' (n+1) gs hok.1 hok.2.1 hok.2.2
   |stop e=>exact rowO_sh O hT hO
variable {rs:oj Rw}
theorem ansS_sh (O:yb rs){r:Rn}{a:D}(h:RnOk rs r)(U:QH r.th=v_)(ha:j8 a):ThS (ansS rs own r a).th:=by
 erw[h.ask U,k1,_];unfold ansS;cases hn:XC a with
 |true=>rw [A5 rfl];exact .inl ⟨0⟩
 |false=>
  rw [A4 u9];have hT:isT a=true:=by
   rcases ha with rfl|ha
   ·cases hn
   ·exact ha
  exact runS_sh O _ _ _ _ _ (Ki h.tr hT) (by have:=h.p1;omega) ()
theorem runS_n {rs:oj Rw}{own:Str}:∀(f:Nat) (B:Str->D) (p:Int) (n:Nat) (gs:oj D),QH (runS rs own gs f B p n).th=v_->1<=f/\n<=(runS rs own gs f B p n).n
 |0,B,p,n,gs,h=>by
  have h:QH (if p>rs.length then flt "silent" else flt "long")=true:=h
  split at h<;>exact absurd h ()
 |f+1,B,p,n,gs,h=>by
  exists ()
  unfold runS at h⊢;by_cases c:p>rs.length
  ·rw [A5 c] at h;exact absurd h (show¬QH (flt "silent")=v_ by decide+kernel)
  ·rw [A4 c] at h⊢;cases U:rowO own (jZ rs p) B p with
   |go O p'=>
    rw [U] at h;have:=(runS_n f O p' (n+1) gs h).2;show n<=(runS rs own gs f O p' (n+1)).n;omega
   |stop e=>
    show n<=(if QH e=v_ then n else n+1)
    split<;>omega
theorem ansS_n {r:Rn}{a:D}(h:QH (ansS rs own r a).th=v_):r.n+1<300/\r.n+1<=(ansS rs own r a).n:=by
 unfold ansS at h⊢;cases hn:XC a with
 |true=>rw [hn,A5 rfl] at h;exact absurd h (show¬QH (flt "lack")=v_ by decide+kernel)
 |false=>
  rw [hn,A4 u9] at h;rw [A4 u9];have:=runS_n _ _ _ _ _ h;exact[():this.2]
structure Gp where
 n:Str
 mb:D
 ra:oj D
 run:om (oj Rw×Rn)
 en:om D
noncomputable def enOf (r:Rn):om D:=if QH r.th=v_ then U_ else u_ r.th
noncomputable def begP (g:Gp)(d:D):Gp:=if XC d=v_ then{g with en:=u_ (flt "lack")} else match Q1 d with
 |none=>{g with en:=u_ (flt "rule")}
 |some rs=>{g with run:=u_ (rs,R0 rs g.n),en:=enOf (R0 rs g.n)}
noncomputable def yc (g:Gp)(d:D):Gp:=match g.run with
 |none=>begP {g with ra:= [.tup [.tup [.str "rule",g.mb],d]]} d
 |some (rs,r)=>{g with run:=u_ (rs,ansS rs g.n r d),en:=enOf (ansS rs g.n r d)}
noncomputable def yR (g:Gp):D:=match g.run with
 |none=> .tup [.str "rule",g.mb]
 |some (_,r)=>zc r.th
noncomputable def j3 (qs:oj (Str×D))(k z:Str):D:=if k="has" then .str (if z∈qs.map (·.1) then "yes" else "no") else rowT (rowG [] ((qs.map (·.1)).filter λy=>Vo y z))
noncomputable def isHN (k:Str):Bool:=decide (k="has")||decide (k="names")
noncomputable def ya (g:Gp):om Str:=match yR g with
 | .tup [.str k,.str z]=>if isHN k=v_ then U_ else u_ z
 |_=>U_
noncomputable def ownP (qs:oj (Str×D))(g:Gp):Gp:=match yR g with
 | .tup [.str k,.str z]=>yc g (j3 qs k z)
 |_=>{g with en:=u_ (flt "name")}
noncomputable def Xe:D->om D
 | .tup [.str k,v]=>if k="said" then u_ v else U_
 |_=>U_
noncomputable def jv (g:Gp):om D:=g.en.bind Xe
noncomputable def stkP (g:Gp)(m:Str):Gp:={g with en:=u_ (.tup [.str "stuck",.str m])}
noncomputable def lftP (g:Gp):Nat:=match g.en with
 |some _=>0
 |none=>match g.run with
  |none=>302
  |some (_,r)=>1+(300-r.n)
noncomputable def g0D (m:Str):D->om Gp
 | .tup [.str k,e]=>if k="leaf" then U_ else if k="made" then u_ ⟨m,e,[],U_,U_⟩ else u_ (begP ⟨m,.non,[],U_,U_⟩ e)
 |_=>U_
noncomputable def onceD:D->om D
 | .tup [.str _,e]=>u_ e
 |_=>U_
noncomputable def SyP (qs:oj (Str×D)):Sy:=⟨Gp,λg=>g.en.isSome,ya,ownP qs,λg a=>yc g (a.getD .non),stkP,jv,λm=>g0D m (qG qs m),λm=>onceD (qG qs m),lftP,(302),qs.map (·.1)⟩
variable {g:Gp}
theorem lft_beg (h:g.run=U_)(d:D):g.en=U_->lftP (begP g d)<302:=by
 intro O;unfold begP;split
 ·show(0:Nat)<302;omega
 ·cases U:Q1 d with
  |none=>show(0:Nat)<302;omega
  |some rs=>
   show(match enOf (R0 rs g.n) with|some _=>0|none=>1+(300-(R0 rs g.n).n))<302
   cases enOf (R0 rs g.n) with
   |some d=>show(0:Nat)<302;omega
   |none=>show(1+(300-(R0 rs g.n).n):Nat)<302;omega
theorem KM (O:g.en=U_)(d:D):lftP (yc g d)<lftP g:=by
 unfold yc;cases U:g.run with
 |none=>
  have e:lftP g=302:=by unfold lftP;rw [O,U]
  rw [e];exact lft_beg (g:=⟨g.n,g.mb,[.tup [.tup [.str "rule",g.mb],d]],U_,g.en⟩) rfl d O
 |some p=>
  erw[p,rs,r];have e:lftP g=1+(300-r.n):=by unfold lftP;rw [O,U]
  rw [e];show(match enOf (ansS rs g.n r d) with|some _=>0|none=>1+(300-(ansS rs g.n r d).n))<_
  unfold enOf;by_cases c:QH (ansS rs g.n r d).th=v_
  ·rw [A5 c];have:=ansS_n c;show 1+(300-(ansS rs g.n r d).n)<1+(300-r.n);omega
  ·rw [A4 c];show 0<1+(300-r.n);omega
variable {qs:oj (Str×D)}{z:Str}
theorem YY (h:z∉qs.map (·.1)):qG qs z= .non:=by
 unfold qG;have:(qs.find? λp=>decide (p.1=z))=none:=by
  rw [U4];intro p O e;exact h (Ab.mpr [p:O:um e])
 rw [this]
 rfl
theorem Qq (qs:oj (Str×D)):(SyP qs).Ok where
 fs:=λ_ _=>rfl
 ss:=λg m=>by
  show Xe (.tup [.str "stuck",.str m])=U_;unfold Xe;exact A4 ()
 sf:=λg v h=>by
  have h:jv g=u_ v:=h;unfold jv at h;show g.en.isSome=v_;cases O:g.en with
  |none=>rw [O] at h;cases h
  |some d=>rfl
 lo:=λg U hw=>by
  have O:g.en=none:=by
   cases O:g.en with
   |none=>rfl
   |some d=>have U:g.en.isSome=false:=U;rw [O] at U;cases U
  show lftP (ownP qs g)<lftP g;unfold ownP;split
  ·exact KM O _
  ·have:0<lftP g:=by
    unfold lftP;rw [O];simp only;split<;>omega
   exact this
 lt:=λg m a U hw=>by
  have O:g.en=none:=by
   cases O:g.en with
   |none=>rfl
   |some d=>have U:g.en.isSome=false:=U;rw [O] at U;cases U
  exact KM O _
 lk:=λg m U=>by
  have O:g.en=none:=by
   cases O:g.en with
   |none=>rfl
   |some d=>have U:g.en.isSome=false:=U;rw [O] at U;cases U
  show 0<lftP g;unfold lftP;rw [O];simp only;split<;>omega
 l0:=λm g h=>by
  have h:g0D m (qG qs m)=u_ g:=h;show lftP g<=302;unfold g0D at h;split at h
  ·split at h
   ·cases h
   ·split at h
    ·cases h;exact uh _
    ·cases h;exact UY (lft_beg rfl _ rfl)
  ·cases h
 gn:=λm g h=>by
  have h:g0D m (qG qs m)=u_ g:=h;show m∈qs.map (·.1);by_cases c:m∈qs.map (·.1)
  ·exact c
  ·rw [YY c] at h;cases h
noncomputable def EnS (d:D):Prop:=(∃z,d=flt z)∨(∃e,d= .tup [.str "said",e]/\isT e=v_)∨∃z,d= .tup [.str "stuck",.str z]
structure GI (g:Gp):Prop where
 n:nm g.n=v_
 run:∀rs r,g.run=u_ (rs,r)->yb rs/\RnOk rs r/\ThS r.th/\(g.en=U_->QH r.th=v_)
 no:g.run=U_->g.en=U_->∃z,g.mb= .str z/\nm z=v_
 en:∀d,g.en=u_ d->EnS d
 ra:nL g.ra=v_/\dpL g.ra<=30/\g.ra.length<=1
theorem en_of {r:Rn}(h:ThS r.th){d:D}(e:enOf r=u_ d):EnS d:=by
 unfold enOf at e;by_cases c:QH r.th=v_
 ·rw [A5 c] at e;cases e
 ·rw [A4 c] at e;cases e;rcases h with h|h|⟨u,z,h,_⟩
  ·exact .inl h
  ·exact .inr (.inl h)
  ·rw [h] at c;exact absurd (show decide (("asks":Str)="asks")=v_ from ub rfl) c
theorem en_none {r:Rn}(e:enOf r=U_):QH r.th=true:=by
 unfold enOf at e;by_cases c:QH r.th=v_
 ·exact c
 ·rw [A4 c] at e;cases e
theorem R0_sh {n:Str}(h:yb rs):ThS (R0 rs n).th:=runS_sh h 300 B0 1 0 [] B0_tr () (by have:=h.n0;omega)
theorem gi_beg (d:D)(h1:nm g.n=v_)(h2:g.run=U_)(h3:nL g.ra=v_/\dpL g.ra<=30/\g.ra.length<=1):GI (begP g d):=by
 unfold begP;split
 ·exact⟨h1,λrs r e=>(by rw [show g.run=u_ (rs,r) from e] at h2;cases h2),(λ_ e=>by cases e),λd e=>by cases e;exact .inl ⟨0⟩,h3⟩
 ·cases U:Q1 d with
  |none=>exact⟨h1,λrs r e=>(by rw [show g.run=u_ (rs,r) from e] at h2;cases h2),(λ_ e=>by cases e),λd e=>by cases e;exact .inl ⟨0⟩,h3⟩
  |some rs=>
   have O:=(wn U).2;exact⟨h1,λaa r e=>by cases e;exact⟨O,R0_ok O,R0_sh O,λe=>en_none e⟩,λe _=>(by cases e),λd e=>en_of (R0_sh O) e,h3⟩
theorem kO (h:GI g)(U:g.en=U_){d:D}(ha:j8 d):GI (yc g d):=by
 unfold yc;cases hr:g.run with
 |none=>
  erw[h.no hr U,z,hz,_];refine gi_beg d h.n rfl ?_;have O:nD d=v_/\dp d<=12:=by
   rcases ha with rfl|ha
   ·exact⟨1,by simp [dp]⟩
   ·exact[good_n (yf ha):ZM ha]
  rw [hz];refine[?_:?_:uh _]
  ·simp only [nL,nD,O.1,Ug]
  ·simp only [dpL,dp];have:=O.2;omega
 |some p=>
  erw[p,rs,r];erw[h.run rs r hr,k1,k2,k3,k4];have hs:=ansS_sh (own:=g.n) k1 k2 (k4 U) ha;exact⟨h.n,λaa r' e=>by cases e;exact⟨k1,ansS_ok k1 k2 (k4 U) ha,hs,λe=>en_none e⟩,λe _=>(by cases e),λd e=>en_of hs e,h.ra⟩
theorem gi_stk (h:GI g)(m:Str):GI (stkP g m):=⟨h.n,λrs r e=>⟨(h.run rs r e).1,(h.run rs r e).2.1,(h.run rs r e).2.2.1,(λz=>by cases z)⟩,(λ_ e=>by cases e),λd e=>by cases e;exact .inr (.inr [m:1]),h.ra⟩
theorem rowG_tree:∀(zs O:oj Str),isT (rowT O)=v_->isT (rowT (rowG O zs))=v_
 | [],O,h=>h
 |z::r,O,h=>by
  unfold rowG;split
  ·rename_i c;exact rowG_tree r _ c
  ·exact h
theorem Ka (U:Q0 qs){k:Str}(z:Str)(hk:isHN k=v_):isT (j3 qs k z)=v_/\ansB k (j3 qs k z)=true:=by
 unfold j3;by_cases c:k="has"
 ·rw [A5 c,c];split<;>exact[():()]
 ·rw [A4 c];have O:isT (rowT (rowG [] ((qs.map (·.1)).filter λy=>Vo y z)))=true:=rowG_tree _ [] ()
  exists O;have hr:isRow (rowT (rowG [] ((qs.map (·.1)).filter λy=>Vo y z)))=true:=by
   show List.all (tt D.str _) isNm=v_;rw [Uj];intro x hx;erw[Ab.mp hx,y,hy,rfl];rcases rowG_mem _ _ _ hy with h|h
   ·cases h
   ·exact U.1.1.1 y (Ac.mp h).1
  unfold ansB;rw [A4 (show¬XC (rowT _)=v_ from u9),A5 O,A4 c,hr,Bool.or_true]
theorem Xv (h:GI g)(he:g.en=U_)(U:ya g=U_):∃rs r k z,g.run=u_ (rs,r)/\r.th= .tup [.str "asks",.tup [.str k,.str z]]/\isHN k=v_/\isT (.str z)=v_/\ownP qs g=yc g (j3 qs k z):=by
 unfold ya at U;cases hr:g.run with
 |none=>
  erw[h.no hr he,z,hz,_];have e:yR g= .tup [.str "rule",.str z]:=by unfold yR;rw [hr,hz]
  rw [e] at U;simp only [show isHN "rule"=V7 by decide+kernel,A4 u9] at U
  cases U
 |some p=>
  erw[p,rs,r];erw[h.run rs r hr,k1,k2,k3,k4];have O:=k4 he;rcases k3 with⟨z,e⟩|⟨d,e,_⟩|⟨u,z,e,ht,hu⟩
  ·rw [e] at O;exact absurd O (by show¬decide (("fault":Str)="asks")=v_;decide+kernel)
  ·rw [e] at O;exact absurd O (by show¬decide (("said":Str)="asks")=v_;decide+kernel)
  ·have e2:yR g= .tup [.str u,.str z]:=by unfold yR;rw [hr];show zc r.th=_;rw [e];rfl
   rw [e2] at U;simp only at U;cases hk:isHN u with
   |false=>rw [hk,A4 u9] at U;cases U
   |true=>exact⟨rs,r,u,z,1,e,hk,ht,by unfold ownP;rw [e2]⟩
variable {m:Str}
theorem ka (h:GI g)(he:g.en=U_)(O:ya g=u_ m):nm m=v_/\((g.run=U_/\g.mb= .str m)∨∃rs r,g.run=u_ (rs,r)/\r.th= .tup [.str "asks",.tup [.str "thing",.str m]]):=by
 unfold ya at O;cases hr:g.run with
 |none=>
  erw[h.no hr he,z,hz,hn];have e:yR g= .tup [.str "rule",.str z]:=by unfold yR;rw [hr,hz]
  rw [e] at O;simp only [show isHN "rule"=V7 by decide+kernel,A4 u9] at O
  cases O;exact[hn:.inl [1:hz]]
 |some p=>
  erw[p,rs,r];erw[h.run rs r hr,k1,k2,k3,k4];have U:=k4 he;rcases k3 with⟨z,e⟩|⟨d,e,_⟩|⟨u,z,e,ht,hu⟩
  ·rw [e] at U;exact absurd U (by show¬decide (("fault":Str)="asks")=v_;decide+kernel)
  ·rw [e] at U;exact absurd U (by show¬decide (("said":Str)="asks")=v_;decide+kernel)
  ·have e2:yR g= .tup [.str u,.str z]:=by unfold yR;rw [hr];show zc r.th=_;rw [e];rfl
   rw [e2] at O;simp only at O;rcases hu with rfl|⟨rfl|rfl,hn⟩
   ·rw [A5 ()] at O;cases O
   ·rw [A4 ()] at O
    cases O;exact[hn:.inr ⟨rs,r,1,e⟩]
   ·rw [A5 ()] at O;cases O
theorem gi_own (U:Q0 qs)(h:GI g)(O:g.en=U_)(hw:ya g=U_):GI (ownP qs g):=by
 erw[Xv (qs:=qs) h O hw,rs,r,k,z,_,_,hk,_,e];rw [e];exact kO h O (.inr (Ka U z hk).1)
theorem Xz (U:Q0 qs)(h:m∈qs.map (·.1)):nm m=v_/\∃k e,qG qs m= .tup [.str k,e]/\(k="made"->∃z,e= .str z/\nm z=v_)/\(k≠"made"->(k="leaf"∨k="rule")/\isT e=v_):=by
 have hs:=U.1.2 _ (dat_mem U.1.1.2 h);erw[hs,[k,e,O],h2,_];have O:qG qs m= .tup [.str k,e]:=O;have h2:isSrc (qG qs m)=true:=h2;rw [O] at h2;have e1:isSrc (.tup [.str k,e])=if eqD (.str k) (.str "made")=v_ then isNm e else(eqD (.str k) (.str "leaf")||eqD (.str k) (.str "rule"))&&isT e:=rfl
 rw [e1] at h2;have eq:∀y:Str,eqD (.str k) (.str y)=decide (k=y):=λy=>rfl;rw [eq,eq,eq] at h2;refine⟨U.1.1.1 m h,k,e,O,λc=> ?_,λc=> ?_⟩
 ·rw [ub c,A5 rfl] at h2;exact isNm_st h2
 ·rwa [uc c,A4 u9,ur,GY,uH,uH] at h2
theorem Wq (U:Q0 qs)(h:g0D m (qG qs m)=u_ g):GI g/\g.n=m:=by
 have hm:m∈qs.map (·.1):=(Qq qs).gn m g h;erw[Xz U hm,hn,k,e,hd,h1,h2];rw [hd] at h;unfold g0D at h;simp only at h;have O:nL ([]:oj D)=v_/\dpL ([]:oj D)<=30/\([]:oj D).length<=1:=⟨1,by simp [dpL],uN _⟩
 split at h
 ·cases h
 ·split at h
  ·rename_i c
   cases h;erw[h1 c,z,rfl,hz];exact⟨⟨hn,λrs r e=>(by cases e),λ_ _=>[z:1:hz],λd e=>(by cases e),O⟩,1⟩
  ·cases h;exists gi_beg e hn rfl O;unfold begP;split
   ·rfl
   ·split<;>rfl
theorem said_ok (h:GI g){v:D}(e:jv g=u_ v):isT v=true:=by
 unfold jv at e;cases O:g.en with
 |none=>rw [O] at e;cases e
 |some d=>
  rw [O] at e;have e:Xe d=u_ v:=e;rcases h.en d O with⟨z,rfl⟩|⟨x,rfl,U⟩|⟨z,rfl⟩
  ·exact absurd e (by unfold Xe flt;simp only;rw [A4 ()];exact λh=>by cases h)
  ·have e3:Xe (.tup [.str "said",x])=u_ x:=by unfold Xe;dsimp only;exact A5 rfl
   rw [e3] at e;cases e;exact U
  ·exact absurd e (by unfold Xe;simp only;rw [A4 ()];exact λh=>by cases h)
theorem take_n (g:Gp)(d:D):(yc g d).n=g.n:=by
 unfold yc;split
 ·unfold begP;split
  ·rfl
  ·split<;>rfl
 ·rfl
theorem own_n (qs:oj (Str×D))(g:Gp):(ownP qs g).n=g.n:=by
 unfold ownP;split
 ·exact take_n _ _
 ·rfl
noncomputable def SGI {qs:oj (Str×D)}(S:Sy.Ss (SyP qs)):Prop:=∀p:Str×Gp,p∈S.stk∨p∈S.don->GI p.2/\p.2.n=p.1
theorem yet_ok (hq:Q0 qs){S:Sy.Ss (SyP qs)}(h:SGI S){a:om D}(e:Sy.yet S m=u_ (u_ a)):j8 (a.getD .non):=by
 unfold Sy.yet at e;split at e
 ·cases e
 ·split at e
  ·rename_i O
   cases e;have O:g0D m (qG qs m)=none:=O;show j8 ((onceD (qG qs m)).getD .non);by_cases hm:m∈qs.map (·.1)
   ·erw[Xz hq hm,hn,k,e,hd,h1,h2];rw [hd] at O⊢;unfold g0D at O;simp only at O;by_cases c:k="leaf"
    ·exact .inr (h2 (by rw [c];decide+kernel)).2
    ·rw [A4 c] at O;split at O<;>cases O
   ·rw [YY hm];exact .inl rfl
  ·cases hd:Sy.Y2 S.don m with
   |none=>rw [hd] at e;cases e
   |some g=>
    rw [hd] at e;have e:(jv g).map u_=u_ a:=uF e;cases U:jv g with
    |none=>rw [U] at e;cases e
    |some v=>
     rw [U] at e;cases e;exact .inr (said_ok (h (m,g) (.inr (Sy.zT hd))).1 U)
theorem nxt_gi (hq:Q0 qs){S:Sy.Ss (SyP qs)}(h:SGI S):SGI (Sy.nxt S):=by
 erw[S,stk,don];cases stk with
 |nil=>exact h
 |cons p r=>
  erw[p,n,g];erw[h (n,g) (.inl uf),U,hn];have on:∀g':Gp,GI g'->g'.n=n->SGI #[Y,(n,g')::r,don]:=by
   intro g' h1 h2 p O;rcases O with O|O
   ·rcases A8.mp O with rfl|O
    ·exact[h1:h2]
    ·exact h p (.inl (ue _ O))
   ·exact h p (.inr O)
  unfold Sy.nxt;simp only;by_cases hf:(SyP qs).fin g=v_
  ·rw [A5 hf];intro p O;rcases O with O|O
   ·exact h p (.inl (ue _ O))
   ·rcases Aa.mp O with O|O
    ·exact h p (.inr O)
    ·cases A9.mp O;exact[U:hn]
  ·rw [A4 hf];have he:Gp.en g=none:=by
    cases he:Gp.en g with
    |none=>rfl
    |some d=>exact absurd (show(Gp.en g).isSome=v_ by rw [he];rfl) hf
   cases hw:(SyP qs).want g with
   |none=>exact on _ (gi_own hq U he hw) ((own_n qs g).trans hn)
   |some m=>
    simp only;cases hy:Sy.yet #[Y,(n,g)::r,don] m with
    |some o=>
     cases o with
     |some a=>exact on _ (kO U he (yet_ok hq h hy)) ((take_n _ _).trans hn)
     |none=>exact on _ (gi_stk U m) hn
    |none=>
     erw[Sy.J3 hy,_,[g',e],_];simp only;rw [e];intro p O;rcases O with O|O
     ·rcases A8.mp O with rfl|O
      ·exact Wq hq e
      ·exact h p (.inl O)
     ·exact h p (.inr O)
structure Oc where
 (x dx px ls du dr df:o3)
noncomputable def ofs (o:Oc):oj (Str×V):= [("given_project",.ref o.px),("stack",.ref o.ls),("under_way",.ref o.du),("full_runs",.ref o.dr),("found",.ref o.df)]
noncomputable def OMT:oj Str:= ["go_through","enter","settle","runner","leave","go_on","answer_yet","begin_anew"]
theorem of_gp (o:Oc):(ofs o).lookup ("given_project":Str)=u_ (.ref o.px):=rfl
theorem of_st (o:Oc):(ofs o).lookup ("stack":Str)=u_ (.ref o.ls):=rfl
theorem of_uw (o:Oc):(ofs o).lookup ("under_way":Str)=u_ (.ref o.du):=rfl
theorem of_fr (o:Oc):(ofs o).lookup ("full_runs":Str)=u_ (.ref o.dr):=rfl
theorem of_fd (o:Oc):(ofs o).lookup ("found":Str)=u_ (.ref o.df):=rfl
theorem Wy (o:Oc):∀m∈OMT,(ofs o).lookup m=none:=by
 intro m hm;simp only [OMT,uz,uD,uM] at hm;rcases hm with rfl|rfl|rfl|rfl|rfl|rfl|rfl|rfl<;>rfl
structure Kp (L:oj o3)(H H':Hp):Prop where
 kept:∀b ob,H b=u_ ob->b∉L->H' b=u_ ob
 tk:Tk H H'
variable {L:oj o3}{H H':Hp}
theorem Kp.of (s:Same H H'):Kp L H H':=[λb ob h _=>s b ob h:s.tk]
variable {H1 H2:Hp}
theorem Kp.trans (h:Kp L H H1)(k:Kp L H1 H2):Kp L H H2:=[λb ob e n=>k.kept b ob (h.kept b ob e n) n:h.tk.trans k.tk]
variable {p:o3}
theorem Kp.updD {xs ys:oj (Key×V)}(h:H p=u_ (.dK xs))(O:p∈L):Kp L H (upd H p (.dK ys)):=⟨λb ob e n=>by have nb:b≠p:=(λz=>n (by rwa [z]));rwa [qi nb],Tk.updD h⟩
theorem wL {κ:Type}[DecidableEq κ](k j:κ):∀kvs:oj (κ×V),valV (Jd kvs k) j=if j=k then U_ else valV kvs j
 | []=>by show U_=_;split<;>rfl
 |p::r=>by
  by_cases c:p.1=k
  ·rw [dropK_pos c,wL k j r];by_cases d:j=k
   ·rw [A5 d,A5 d]
   ·rw [A4 d,A4 d,QE (λz=>d (z.symm.trans c))]
  ·rw [dropK_neg c];by_cases d:p.1=j
   ·rw [QP d,A4 (λz=>c (d.trans z)),QP d]
   ·rw [QE d,wL k j r,QE d]
variable {C:o3}
theorem jg.kp {x:o3}(h:jg C H x qs)(k:Kp L H H')(hL:∀p∈L,(∃xs,H p=u_ (.lst xs))∨(∃xs,H p=u_ (.dK xs))∨H p=U_):jg C H' x qs:=by
 erw[h,dx,d,o,vs,O,U,e3,e4];have n1:x∉L:=λz=>by rcases hL x z with⟨_,e⟩|⟨_,e⟩|e<;>rw [e] at O<;>cases O
 have n2:d∉L:=λz=>by rcases hL d z with⟨_,e⟩|⟨_,e⟩|e<;>rw [e] at U<;>cases U
 exact⟨dx,d,o,vs,k.kept _ _ O n1,k.kept _ _ U n2,e3,e4.mono k.tk⟩
structure OAt (CO CP:o3)(H:Hp)(o:Oc)(qs:oj (Str×D)):Prop where
 e:H o.x=u_ (.ins CO o.dx (ofs o))
 p:jg CP H o.px qs
theorem OAt.kp {CO CP:o3}{o:Oc}(h:OAt CO CP H o qs)(k:Kp L H H')(O:∀p∈L,(∃xs,H p=u_ (.lst xs))∨(∃xs,H p=u_ (.dK xs))∨H p=U_):OAt CO CP H' o qs:=by
 refine[k.kept _ _ h.e (λz=> ?_):h.p.kp k O];have U:=h.e;rcases O o.x z with⟨_,e⟩|⟨_,e⟩|e<;>rw [e] at U<;>cases U
noncomputable def UkOk {qs:oj (Str×D)}(S:Sy.Ss (SyP qs))(uk:oj (Key×V)):Prop:=∀m:Str,(valV uk (V9 m)).isSome=decide (m∈S.stk.map (·.1))
noncomputable def FdOk {qs:oj (Str×D)}(H:Hp)(S:Sy.Ss (SyP qs))(fk:oj (Key×V)):Prop:=∀(m:Str) (g:Gp),g0D m (qG qs m)=u_ g->
 (∀g':Gp,Sy.Y2 S.don m=u_ g'->∃v,valV fk (V9 m)=u_ v/\Is H (YI (g'.en.getD .non)) v)/\(Sy.Y2 S.don m=U_->valV fk (V9 m)=U_)
theorem FdOk.mono {S:Sy.Ss (SyP qs)}{fk:oj (Key×V)}(h:FdOk H S fk)(t:Tk H H'):FdOk H' S fk:=λm g O=>⟨λg' e=>let⟨v,a,b⟩:=(h m g O).1 g' e;[v:a:b.mono t],(h m g O).2⟩
noncomputable def ansIs:om (om D)->D->Prop
 |some (u_ v),d=>d= .tup [.str "value",v]
 |some U_,d=>d= .tup [.str "lack"]
 |none,d=>∃k r,d= .tup (.str k::r)/\k≠"value"/\k≠"lack"
noncomputable def nrg (d:D):Prop:=∃k r,d= .tup (.str k::r)/\(k="value"∨k="lack"∨k="fault"∨k="stuck")
noncomputable def YetIs {qs:oj (Str×D)}(H:Hp)(S:Sy.Ss (SyP qs))(m:Str)(v:V):Prop:=match Sy.yet S m with
 |none=>v= .non
 |some o=>∃d,Is H d v/\ansIs o d/\(m∉S.stk.map (·.1)->nrg d)
inductive sp_yet (CO CP:Addr) (vs:List V) (H:Hp) (Q:VK) (E_:XK):Prop
 |mk (o:Oc) (m:Str) (qs:List (Str×D)) (S:Sy.Ss (SyP qs)) (uk fk:List (Key×V)) (_:vs= [.ref o.x,.str m]) (_:OAt CO CP H o qs) (_:Q0 qs) (_:SGI S) (_:H o.du=u_ (.dK uk)) (_:UkOk S uk) (_:H o.df=u_ (.dK fk)) (_:FdOk H S fk) (_:fk.length<=100000) (_:(∀p∈S.don,(SyP qs).fin p.2=v_)) (_:∀(v:V) (H':Hp) (fk':List (Key×V)),Kp [o.df] H H'->H' o.df=u_ (.dK fk')->FdOk H' S fk'->fk'.length<=fk.length+1->(Sy.yet S m=U_->fk'.length=fk.length)->YetIs H' S m v->Q v H')
inductive sp_anew (CO:Addr) (vs:List V) (H:Hp) (Q:VK) (E_:XK):Prop
 |mk (x dx px:Addr) (_:vs= [.ref x,.ref px]) (_:H x=u_ (.ins CO dx [])) (_:∀(o:Oc) (H':Hp),o.x=x->o.dx=dx->o.px=px->(∀b ob,H b=u_ ob->b≠x->H' b=u_ ob)->Tk H H'->H o.ls=U_->H o.du=U_->H o.dr=U_->H o.df=U_-> [o.ls,o.du,o.dr,o.df].Nodup->H' x=u_ (.ins CO dx (ofs o))->H' o.ls=u_ (.lst [])->H' o.du=u_ (.dK [])->H' o.dr=u_ (.dK [])->H' o.df=u_ (.dK [])->Q .non H')
inductive sp_leave (vs:List V) (H:Hp) (Q:VK) (E_:XK):Prop
 |mk (x:_) (y:_) (_:vs= [x,y]) (_:Q .non H)
theorem once_ans (O:Q0 qs)(h:g0D m (qG qs m)=U_):∃k,ww (qG qs m)= .tup k/\ansIs (u_ (onceD (qG qs m))) (.tup k)/\nrg (.tup k):=by
 by_cases hm:m∈qs.map (·.1)
 ·erw[Xz O hm,hn,k,e,hd,h1,h2];rw [hd] at h⊢;unfold g0D at h;simp only at h;by_cases c:k="leaf"
  ·refine⟨[.str "value",e],?_,1,[_:0:.inl rfl]⟩;unfold ww;simp only;exact A5 c
  ·rw [A4 c] at h;split at h<;>cases h
 ·rw [YY hm];exact[0:1:[_:0:.inr (.inl rfl)]]
theorem once_no (O:Q0 qs)(h:g0D m (qG qs m)=u_ g):ww (qG qs m)= .non:=by
 erw[Xz O ((Qq qs).gn m g h),hn,k,e,hd,h1,h2];rw [hd] at h⊢;unfold g0D at h;simp only at h;by_cases c:k="leaf"
 ·rw [A5 c] at h;cases h
 ·unfold ww;simp only;exact A4 c
theorem ans_of (h:GI g)(hf:g.en.isSome=v_):ansIs ((jv g).map u_) (YI (g.en.getD .non)):=by
 cases he:g.en with
 |none=>rw [he] at hf;cases hf
 |some d=>
  unfold jv;rw [he];show ansIs ((Xe d).map u_) (YI d);rcases h.en d he with⟨z,rfl⟩|⟨x,rfl,hx⟩|⟨z,rfl⟩
  ·have O:Xe (flt z)=none:=by unfold Xe flt;dsimp only;exact A4 ()
   have U:YI (flt z)=flt z:=by unfold YI flt;dsimp only;exact A4 ()
   rw [O,U];exact⟨"fault",[.str z],1,(),()⟩
  ·have O:Xe (.tup [.str "said",x])=u_ x:=by unfold Xe;dsimp only;exact A5 rfl
   have U:YI (.tup [.str "said",x])= .tup [.str "value",x]:=by unfold YI;dsimp only;exact A5 rfl
   rw [O,U];exact rfl
  ·have O:Xe (.tup [.str "stuck",.str z])=none:=by unfold Xe;dsimp only;exact A4 ()
   have U:YI (.tup [.str "stuck",.str z])= .tup [.str "stuck",.str z]:=by unfold YI;dsimp only;exact A4 ()
   rw [O,U];exact⟨"stuck",[.str z],1,(),()⟩
theorem ans_nrg (h:GI g)(U:g.en.isSome=v_):nrg (YI (g.en.getD .non)):=by
 cases he:g.en with
 |none=>rw [he] at U;cases U
 |some d=>
  show nrg (YI d);rcases h.en d he with⟨z,rfl⟩|⟨x,rfl,hx⟩|⟨z,rfl⟩
  ·have O:YI (flt z)=flt z:=by unfold YI flt;dsimp only;exact A4 ()
   rw [O];exact[_:0:.inr (.inr (.inl rfl))]
  ·have O:YI (.tup [.str "said",x])= .tup [.str "value",x]:=by unfold YI;dsimp only;exact A5 rfl
   rw [O];exact[_:0:.inl rfl]
  ·have O:YI (.tup [.str "stuck",.str z])= .tup [.str "stuck",.str z]:=by unfold YI;dsimp only;exact A4 ()
   rw [O];exact[_:0:.inr (.inr (.inr rfl))]
section
variable {P:o9}{w:og}{K:o0}{mg:Str->om o6}{base:o8}{a:Ad}{g:Ga}
theorem ok_leave (T:Tx K mg a):#[K,1,a.YO,a.YW,["self","going"],sp_leave]:=by
 exists 9,T.g_PlainOrder_leave,xQ,O
 erw[h,x,y,rfl,q];exists _,%[|ps_pass]
 exists 7
 exact q
theorem ok_anew (T:Tx K mg a):#[K,1,a.yu,a.yw,["self","project"],(sp_anew a.qp)]:=by
 exists 9,T.g_PlainOrder_begin_anew,ja
 erw[h,x,dx,px,rfl,hx,q];have hs:=uB;exists _,%[#[Qc,pv 1],#[Qc,#[QT,qd]],#[Qc,jL],#[Qc,jL]|#[Qc,jL]]
 exists 7
 exists 0,0,x,_,dx,0,hx,T.qy,T.Qb,()
 refine[(sml rfl):λU h1=> ?_];have n1:x≠U:=qk qh h1;refine⟨0,x,_,dx,0,(qi n1).trans qh,T.qy,T.Qz,by show 1<1000;decide,?_⟩
 intro l2 h2;have n2:x≠l2:=qk qh h2;refine⟨0,x,_,dx,0,(qi n2).trans qh,T.qy,T.Qx,by show 2<1000;decide,?_⟩
 intro l3 h3;have n3:x≠l3:=qk qh h3;refine⟨0,x,_,dx,0,(qi n3).trans qh,T.qy,T.QW,by show 3<1000;decide,?_⟩
 intro l4 h4;have n4:x≠l4:=qk qh h4;refine⟨0,x,_,dx,0,(qi n4).trans qh,T.qy,T.QA,by show 4<1000;decide,?_⟩
 rw [qi n1.symm] at h1;have O:l2≠U:=λz=>by rw [z,qi n1.symm,qh] at h2;cases h2
 have k2:H l2=none:=by rwa [qi n2.symm,qi O,qi n2.symm] at h2
 have aa:l3≠l2:=λz=>by rw [z,qi n2.symm,qh] at h3;cases h3
 have ac:l3≠U:=λz=>by rw [z,qi n1.symm,qi O.symm,qi n1.symm,qh] at h3;cases h3
 have k3:H l3=none:=by rwa [qi n3.symm,qi aa,qi n3.symm,qi ac,qi n3.symm] at h3
 have ad:l4≠l3:=λz=>by rw [z,qi n3.symm,qh] at h4;cases h4
 have ae:l4≠l2:=λz=>by rw [z,qi n2.symm,qi aa.symm,qi n2.symm,qh] at h4;cases h4
 have af:l4≠U:=λz=>by rw [z,qi n1.symm,qi ac.symm,qi n1.symm,qi O.symm,qi n1.symm,qh] at h4;cases h4
 have k4:H l4=none:=by rwa [qi n4.symm,qi ad,qi n4.symm,qi ae,qi n4.symm,qi af,qi n4.symm] at h4
 have kp:∀b ob,H b=u_ ob->b≠x->(upd (upd (upd (upd (upd (upd (upd (upd (upd H x (.ins a.qp dx (putF "given_project" (V.ref px) []))) U (.lst [])) x (.ins a.qp dx (putF "stack" (V.ref U) (putF "given_project" (V.ref px) [])))) l2 (.dK [])) x (.ins a.qp dx (putF "under_way" (V.ref l2) (putF "stack" (V.ref U) (putF "given_project" (V.ref px) []))))) l3 (.dK [])) x (.ins a.qp dx (putF "full_runs" (V.ref l3) (putF "under_way" (V.ref l2) (putF "stack" (V.ref U) (putF "given_project" (V.ref px) [])))))) l4 (.dK [])) x (.ins a.qp dx (putF "found" (V.ref l4) (putF "full_runs" (V.ref l3) (putF "under_way" (V.ref l2) (putF "stack" (V.ref U) (putF "given_project" (V.ref px) []))))))) b=u_ ob:=λb ob h nb=>by
  rwa [qi nb,qi (qk h k4),qi nb,qi (qk h k3),qi nb,qi (qk h k2),qi nb,qi (qk h h1),qi nb]
 refine q ⟨x,dx,px,U,l2,l3,l4⟩ _ rfl rfl rfl kp ?_ h1 k2 k3 k4 ?_ ?_ ?_ ?_ ?_ ?_
 ·refine[λb xs e=>kp b _ e (λz=> ?_):λb xs e=>[xs:kp b _ e (λz=> ?_)]:λb xs e=>[xs:kp b _ e (λz=> ?_)]]<;>(rw [z,hx] at e;cases e)
 ·simp only [Uz,uz,uD,uM,V5,UW,vV,and_true];exact[[O.symm:ac.symm:af.symm]:[aa.symm:ae.symm]:ad.symm]
 ·exact qh
 ·rw [qi n1.symm,qi af.symm,qi n1.symm,qi ac.symm,qi n1.symm,qi O.symm,qi n1.symm];exact qh
 ·rw [qi n2.symm,qi ae.symm,qi n2.symm,qi aa.symm,qi n2.symm];exact qh
 ·rw [qi n3.symm,qi ad.symm,qi n3.symm];exact qh
 ·rw [qi n4.symm];exact qh
theorem ok_oinit (T:Tx K mg a):#[K,2,a.yO,a.jm,["self","project"],(sp_anew a.qp)]:=by
 have U:=#[ok_anew,T];exists 9,T.g_PlainOrder_init,XQ
 erw[h,x,dx,px,rfl,O,q];exists _,%[|#[qV,#[Qv,pv 0,T.qy,T.g_PlainOrder_begin_anew,U,#v[pv 1]]]]
 exists 7
 exact⟨0,x,dx,0,O,1,0,x,dx,px,1,O,q⟩
theorem ok_yet (T:Tx K mg a):#[K,2,a.yI,a.yy,["self","name"],(sp_yet a.qp a.qO)]:=by
 have yh:=#[Wi,T];have Zs:=#[ok_once,T];exists 9,T.g_PlainOrder_answer_yet,yp
 erw[h,o,m,qs,S,uk,fk,rfl,hO,hq,hG,ad,hU,ac,hF,hl,aa,k];have hs:=uB;exists _,%[#[qI,#[Jz,#[w8,pv 1,#[qN,5,pv 0,rfl]]],%[|#[qt,#[qE,#v[qm]]]],qv],#[qC,(2),yp.nd,#[qw,Zs,T.g_answer_at_once,#v[#[Qv,#[qN,5,pv 0,rfl],T.YG,T.g_Project_source_of,yh,#v[pv 1]]]]],#[qI,#[qq,op_notN,pv 2,qX],%[|#[YH,#[qN,5,pv 0,rfl],pv 1,pv 2]],qv]|#[qt,#[pe_dget1,7,Qn hr,#[qN,5,pv 0,rfl],pv 1,⟨1,1,1,1⟩]]]
 exists 7
 exists 0,0,o.x,_,o.dx,_,0,hO.e,T.qy,T.Qx,of_uw o,o.du,0,DGet.k (k:=V9 m) ad,0;rw [hU m];by_cases c:m∈S.stk.map (·.1)
 ·have ey:Sy.yet S m=u_ none:=by unfold Sy.yet;rw [A5 c]
  refine iteB (ub c) [(sml rfl):λt ht=> ?_];have s1:=qg ht (.tup [V.str "ring"]);refine k _ _ fk (Kp.of s1) (s1 _ _ ac) (hF.mono s1.tk) (GQ _) (λ_=>rfl) ?_;unfold YetIs;rw [ey];exact⟨_,Is.new (ds:= [.str "ring"]) ⟨_,0,yU (),1⟩ ht,⟨"ring",[],1,(),()⟩,λz=>absurd c z⟩
 refine iteN (uc c) ?_;exists 0,o.x,_,o.dx,_,0,hO.e,T.qy,T.Qb,of_gp o;erw[id hO.p,ae,dp,op,ak,hx,hd,hk,hv];refine⟨o.px,ae,0,hx,Zg,0,o.px,m,qs,1,hO.p,λv h1 h2=> ?_⟩;have af:Is H (qG qs m) v:=by
  by_cases cm:m∈qs.map (·.1)
  ·exact h1 cm
  ·rw [h2 cm,YY cm];exact rfl
 refine⟨v,qG qs m,1,af,?_,λu H1 s1 hu=> ?_⟩
 ·by_cases cm:m∈qs.map (·.1)
  ·erw[Xz hq cm,_,k,e,hd,_];exact .inr [k:e:hd]
  ·exact .inl (YY cm)
 have O:=s1 _ _ ac;exists 0,1,0;cases hg:g0D m (qG qs m) with
 |none=>
  erw[once_ans hq hg,l,e1,e2,e3];rw [e1] at hu;have ag:u≠ .non:=zB hu (by intro z;cases z)
  have ey:Sy.yet S m=u_ (u_ (onceD (qG qs m))):=by have U:=hg;unfold Sy.yet;rw [A4 c,show(SyP qs).g0 m=_ from U];rfl
  refine iteB (by simp [ag]) ?_
  have kp:Kp [o.df] H (upd H1 o.df (.dK (putK fk (V9 m) u))):=(Kp.of s1).trans (Kp.updD O uf);exists 0,0,o.x,_,o.dx,_,0,s1 _ _ hO.e,T.qy,T.QA,of_fd o,0,o.df,0,DPut.k (k:=V9 m) O ()
  have ah:=hO.kp kp (by intro p hp;cases A9.mp hp;exact .inr (.inl [_:ac]))
  exists 0,o.x,_,o.dx,_,0,ah.e,T.qy,T.QA,of_fd o,o.df,1,.inl [_:.inl qh],0,_,DGet.k (k:=V9 m) qh;rw [XZ,A5 rfl];refine k _ _ _ kp qh ?_ (yS _ _ _) (λz=>by rw [ey] at z;cases z) ?_
  ·intro m' g' U;rw [XZ,A4 (λz=>by injection z with z;rw [z,hg] at U;cases U)]
   exact(hF.mono kp.tk) m' g' U
  ·unfold YetIs;rw [ey];exact⟨_,(hu.mono (Tk.updD O)),e2,λ_=>e3⟩
 |some g=>
  rw [once_no hq hg] at hu;cases(show u= .non from hu)
  refine iteN (by simp) ?_
  exists 0,o.x,_,o.dx,_,0,s1 _ _ hO.e,T.qy,T.QA,of_fd o,o.df,1,.inl [_:.inl O],0,_,DGet.k (k:=V9 m) O;refine k _ _ fk (Kp.of s1) O (hF.mono s1.tk) (GQ _) (λ_=>rfl) ?_;have ey:Sy.yet S m=(Sy.Y2 S.don m).map λg=>(jv g).map some:=by have U:=hg;unfold Sy.yet;rw [A4 c,show(SyP qs).g0 m=_ from U];rfl
  erw[hF m g hg,f1,f2];unfold YetIs;rw [ey];cases hd:Sy.Y2 S.don m with
  |none=>
   rw [f2 hd];exact rfl
  |some g'=>
   erw[f1 g' hd,y,e1,e2];rw [e1];exact⟨_,e2.mono s1.tk,ans_of (hG (m,g') (.inr (Sy.zT hd))).1 (aa (m,g') (Sy.zT hd)),λ_=>ans_nrg (hG (m,g') (.inr (Sy.zT hd))).1 (aa (m,g') (Sy.zT hd))⟩
structure GRel (g:Gc)(s:Gs)(p:Gp):Prop where
 n:g.n=p.n
 mb:s.mb=p.mb
 ra:s.ra=p.ra
 run:(s.run.map λq=>(q.1.rs,q.2))=p.run
 own:∀mc r,s.run=u_ (mc,r)->mc.own=g.n
 en:s.en=p.en.getD .non
noncomputable def plcR:om (Mc×Rn)->oj o3
 |none=> []
 |some (mc,_)=> [mc.x,mc.db,mc.dg]
noncomputable def plc (g:Gc)(s:Gs):oj o3:=g.x::plcR s.run
theorem GRel.none {g:Gc}{s:Gs}{p:Gp}(h:GRel g s p)(e:p.run=U_):s.run=none:=by
 have:=h.run;rw [e] at this;cases O:s.run with
 |none=>rfl
 |some q=>rw [O] at this;cases this
theorem GRel.some {g:Gc}{s:Gs}{p:Gp}(h:GRel g s p){rs:oj Rw}{r:Rn}(e:p.run=u_ (rs,r)):∃mc:Mc,s.run=u_ (mc,r)/\mc.rs=rs/\mc.own=g.n:=by
 have:=h.run;rw [e] at this;cases O:s.run with
 |none=>rw [O] at this;cases this
 |some q=>
  erw[q,mc,U];rw [O] at this;cases this;exact⟨mc,1,1,h.own mc U O⟩
variable {CM:o3}
theorem GoAt.frame {g:Gc}{s:Gs}(h:GoAt C CM H g s)(O:∀b∈plc g s,∀ob,H b=u_ ob->H' b=u_ ob)(t:Tk H H'):GoAt C CM H' g s:=by
 erw[h,dx,fs,mv,av,rv,ev,e,f,i,j,k,l];refine⟨dx,fs,mv,av,rv,ev,O _ uf _ e,f,i.mono t,j.mono t,?_,l.mono t⟩;cases U:s.run with
 |none=>rwa [U] at k
 |some q=>
  erw[q,mc,r];have hp:plc g s= [g.x,mc.x,mc.db,mc.dg]:=by unfold plc plcR;rw [U]
  rw [hp] at O;rw [U] at k;erw[k,k1,k2,dm,fm,aa,ru,tv,gv,em,ac,i1,i2,[bf,ib,jb],i4,i5,i6];exact⟨k1,k2,dm,fm,aa,ru,tv,gv,O _ (by simp) _ em,ac,i1.mono t,i2.mono t,⟨bf,O _ (by simp) _ ib,λz hz=>(jb z hz).mono t⟩,O _ (by simp) _ i4,i5.mono t,i6.mono t⟩
theorem GoAt.there {g:Gc}{s:Gs}(h:GoAt C CM H g s):∀b∈plc g s,∃ob,H b=u_ ob:=by
 erw[h,dx,fs,mv,av,rv,ev,e,f,i,j,k,l];intro b O;rcases A8.mp O with rfl|O
 ·exact[_:e]
 ·cases U:s.run with
  |none=>rw [U] at O;cases O
  |some q=>
   erw[q,mc,r];rw [U] at O k;erw[k,k1,k2,dm,fm,aa,ru,tv,gv,em,ac,i1,i2,[bf,ib,jb],i4,i5,i6];simp only [plcR,uz,uD,uM] at O;rcases O with rfl|rfl|rfl
   ·exact[_:em]
   ·exact[_:ib]
   ·exact[_:i4]
theorem beg_rel {g:Gc}{d:D}{s s':Gs}{p:Gp}(b:BegOk H g d s s')(h:GRel g s p)(U:p.run=U_)(he:p.en=U_):GRel g s' (begP p d)/\∀c∈plc g s',c=g.x∨H c=none:=by
 have hr:=h.none U;have aa:s.en= .non:=by rw [h.en,he];rfl
 have nil:s'.run=U_->∀c∈plc g s',c=g.x∨H c=none:=λe c O=>by
  unfold plc at O;rw [e] at O;rcases A8.mp O with z|z
  ·exact .inl z
  ·cases z
 unfold begP;by_cases c:d= .non
 ·erw[b.lack c,b1,b2];rw [A5 (by rw [c];rfl)]
  exact⟨⟨h.n,b.mb.trans h.mb,b.ra.trans h.ra,(by show _=p.run;rw [b1,U];rfl),(λmc r e=>by rw [b1] at e;cases e),b2⟩,nil b1⟩
 ·rw [A4 (λz=>c (by cases d with|non=>rfl|_=>cases z))]
  cases hd:Q1 d with
  |none=>
   erw[b.rule c hd,b1,b2];exact⟨⟨h.n,b.mb.trans h.mb,b.ra.trans h.ra,(by show _=p.run;rw [b1,U];rfl),(λmc r e=>by rw [b1] at e;cases e),b2⟩,nil b1⟩
  |some rs=>
   erw[b.go rs hd,mc,c1,c2,c3,c4,c5,c6,c7];refine[⟨h.n,b.mb.trans h.mb,b.ra.trans h.ra,?_,λac r e=> ?_,?_⟩:λc O=> ?_]
   ·rw [c6];show u_ (mc.rs,R0 rs g.n)=u_ (rs,R0 rs p.n);rw [c4,h.n]
   ·rw [c6] at e;cases e;exact c5
   ·rw [c7,h.n,aa];show _=(enOf (R0 rs p.n)).getD .non;unfold enOf;split<;>rfl
   ·unfold plc at O;rw [c6] at O;simp only [plcR,uz,uD,uM] at O;rcases O with z|rfl|rfl|rfl
    ·exact .inl z
    ·exact .inr c1
    ·exact .inr c2
    ·exact .inr c3
noncomputable def runPG:om (oj Rw×Rn)->oj D
 |none=> []
 |some (_,r)=>r.gs
noncomputable def xg (p:Gp):D:= .tup [.tup (p.ra++runPG p.run),p.en.getD .non]
theorem full_rel {g:Gc}{s:Gs}{p:Gp}(h:GRel g s p):fullD s=xg p:=by
 unfold fullD xg;rw [h.ra,h.en];have e:runG s.run=runPG p.run:=by
  rw [<-h.run];cases s.run with
  |none=>rfl
  |some q=>rfl
 rw [e]
theorem full_len {p:Gp}(h:GI p):p.ra.length+(runPG p.run).length<=1000:=by
 have h1:=h.ra.2.2;cases O:p.run with
 |none=>show _+0<=1000;omega
 |some q=>
  erw[q,rs,r];have h2:=(h.run rs r O).2.1;have h3:=h2.gs.2.2;have h4:=h2.n;show _+r.gs.length<=1000;omega
inductive sp_enter (CO CP CG CM:Addr) (vs:List V) (H:Hp) (Q:VK) (E_:XK):Prop
 |mk (o:Oc) (m:Str) (qs:List (Str×D)) (xs:List V) (uk:List (Key×V)) (p:Gp) (_:vs= [.ref o.x,.str m]) (_:OAt CO CP H o qs) (_:Q0 qs) (_:H o.ls=u_ (.lst xs)) (_:xs.length<=100000) (_:H o.du=u_ (.dK uk)) (_:uk.length<=100000) (_:g0D m (qG qs m)=u_ p) (_:∀(g:Gc) (s:Gs) (H':Hp),Kp [o.ls,o.du] H H'->H' o.ls=u_ (.lst (xs++ [.ref g.x]))->H' o.du=u_ (.dK (putK uk (V9 m) (.bl v_)))->GoAt CG CM H' g s->GRel g s p->g.o=o.x->(∀b∈plc g s,H b=U_)->Q .non H')
inductive sp_settle (CO CP CG CM:Addr) (vs:List V) (H:Hp) (Q:VK) (E_:XK):Prop
 |mk (o:Oc) (qs:List (Str×D)) (g:Gc) (s:Gs) (p:Gp) (rk fk:List (Key×V)) (_:vs= [.ref o.x,.ref g.x]) (_:OAt CO CP H o qs) (_:GoAt CG CM H g s) (_:GRel g s p) (_:GI p) (_:p.en.isSome=v_) (_:H o.dr=u_ (.dK rk)) (_:rk.length<=100000) (_:H o.df=u_ (.dK fk)) (_:fk.length<=100000) (_:o.dr≠o.df) (_:o.dr∉plc g s) (_:o.df∉plc g s) (_:∀(v1 v2:V) (H':Hp),Kp [o.dr,o.df] H H'->H' o.dr=u_ (.dK (putK rk (V9 g.n) v1))->Is H' (xg p) v1->H' o.df=u_ (.dK (putK fk (V9 g.n) v2))->Is H' (YI (p.en.getD .non)) v2->Q .non H')
theorem ok_enter (T:Tx K mg a)(C:Fx K w mg g a):#[K,12,a.YT,a.YN,["self","name"],(sp_enter a.qp a.qO a.qK a.qo)]:=by
 have yh:=#[Wi,T];have O:=#[ok_ginit,T,C];exists 9,T.g_PlainOrder_enter,Xm
 erw[h,o,m,qs,xs,uk,p,rfl,hO,hq,U,aq,aa,au,hp,k];have hs:=uB;exists _,%[#[qV,#[jh,uR,vm,vn,Ya,#[qN,5,pv 0,rfl],#v[#[ZS,T.M_Going,O,T.m_Going,T.g_Going_init,qB,#v[pv 1,#[Qv,#[qN,5,pv 0,rfl],T.YG,T.g_Project_source_of,yh,#v[pv 1]],pv 0]]]]]|#[YH,#[qN,5,pv 0,rfl],pv 1,Ja]]
 exists 7
 exists 0,o.x,_,o.dx,_,0,hO.e,T.qy,T.Qz,of_st o,.inl [1:_:SqL.of U];exists 0,0,o.x,_,o.dx,_,0,hO.e,T.qy,T.Qb,of_gp o;erw[id hO.p,al,dp,op,aw,hx,hd,hk,hv];refine⟨o.px,al,0,hx,Zg,0,o.px,m,qs,1,hO.p,λsv h1 h2=> ?_⟩;have hm:m∈qs.map (·.1):=(Qq qs).gn m p hp;have ag:=h1 hm;erw[Xz hq hm,hn,kk,e,am,g1,g2];rw [am] at ag hp;refine[0:λx dx ac ah nx=> ?_];have s0:Same H (upd (upd H dx (.own x)) x (.ins a.qK dx [])):=λb o h=>by rwa [qi (qk h ac),qi (qk h ah)]
 have nox:o.x≠x:=qk hO.e ac;refine⟨x,dx,o.x,m,kk,sv,e,1,qh,ag.mono s0.tk,hn,nox,⟨_,_,s0 _ _ hO.e,Wy o _ ()⟩,λH1 s1 ao ax G1 b1 b2=>[1:?_]⟩
 have ad:Same H H1:=λb ob h=>ao b ob (s0 b ob h) (qk h ac);have rel:GRel ⟨x,o.x,m⟩ s1 p/\∀c∈plc ⟨x,o.x,m⟩ s1,H c=none:=by
  unfold g0D at hp;simp only at hp;split at hp
  ·cases hp
  ·split at hp
   ·rename_i c
    cases hp;have e1:=b1 c;rw [e1];refine⟨⟨1,1,1,1,(λ_ _ z=>by cases z),1⟩,λc hc=> ?_⟩
    rcases A8.mp hc with rfl|hc
    ·exact ac
    ·cases hc
   ·rename_i c
    cases hp;obtain⟨r1,r2⟩:=beg_rel (p:=⟨m,.non,[],U_,U_⟩) (b2 c) ⟨1,1,1,1,(λ_ _ z=>by cases z),1⟩ rfl rfl
    refine[r1:λc hc=> ?_];rcases r2 c hc with rfl|hc
    ·exact ac
    ·exact s0.free hc
 exists o.ls,xs,0,1,ad _ _ U,()
 have ak:Kp [o.ls,o.du] H1 (upd H1 o.ls (.lst (xs++ [.ref x]))):=⟨λb ob h n=>by rw [qi (λz=>n (by rw [z];exact uf))];exact h,Kept.tk (p:=o.ls) (λb ob h n=>by rwa [qi n]) (ad _ _ U) qh⟩
 have n1:o.du≠o.ls:=λz=>by rw [z,U] at aa;cases aa
 have ae:upd H1 o.ls (.lst (xs++ [.ref x])) o.du=u_ (.dK uk):=by rw [qi n1];exact ad _ _ aa
 have n2:o.x≠o.ls:=λz=>by have:=hO.e;rw [z,U] at this;cases this
 have n3:o.x≠o.du:=λz=>by have:=hO.e;rw [z,aa] at this;cases this
 refine⟨0,o.x,_,o.dx,_,0,(by rw [qi n2];exact ad _ _ hO.e),T.qy,T.Qx,of_uw o,0,o.du,0,DPut.k (k:=V9 m) ae (),?_⟩
 have ap:=((Kp.of (L:= [o.ls,o.du]) ad).trans ak).trans (Kp.updD (ys:=putK uk (V9 m) (.bl v_)) ae (ue _ uf));refine k [x:o.x:m] s1 _ ap (by rw [qi n1.symm];exact qh) qh (G1.frame (λb hb ob h=> ?_) ((ak.trans (Kp.updD (ys:=putK uk (V9 m) (.bl v_)) ae (ue _ uf)))).tk) rel.1 rfl rel.2
 have af:=rel.2 b hb;have m1:b≠o.ls:=λz=>by rw [z,U] at af;cases af
 have m2:b≠o.du:=λz=>by rw [z,aa] at af;cases af
 rw [qi m2,qi m1];exact h
theorem ok_settle (T:Tx K mg a):#[K,3,a.YC,a.YL,["self","going"],(sp_settle a.qp a.qO a.qK a.qo)]:=by
 have O:=#[ok_full,T];have U:=#[ok_ansby,T];have Xt:=#[ok_leave,T];exists 9,T.g_PlainOrder_settle,xf
 erw[h,o,qs,g,st,p,rk,fk,rfl,hO,hG,hR,hI,af,ad,aA,ag,aB,ah,nr,nf,k];have hs:=uB;exists _,%[#[YH,#[qN,5,pv 0,rfl],#[qN,5,pv 1,rfl],#[QB,pv 1,T.qR,T.g_Going_full,O]],#[YH,#[qN,5,pv 0,rfl],#[qN,5,pv 1,rfl],#[qw,U,T.g_answer_by,#v[#[qN,5,pv 1,rfl]]]]|#[qV,#[Qv,pv 0,T.qy,T.g_PlainOrder_leave,Xt,#v[pv 1]]]]
 exists 7
 erw[id hG,dx,fs,mv,av,rv,ev,e,f,i,j,aC,l];have ax:o.dr≠g.x:=λz=>nr (by rw [z];exact uf)
 have aD:o.df≠g.x:=λz=>nf (by rw [z];exact uf)
 have ak:o.x≠o.dr:=λz=>by have:=hO.e;rw [z,ad] at this;cases this
 have al:o.x≠o.df:=λz=>by have:=hO.e;rw [z,ag] at this;cases this
 have am:(runG st.run).length=(runPG p.run).length:=by
  have:=full_rel hR;unfold fullD xg at this;simp only [D.tup.injEq,Ue] at this;have:=this.1;rw [hR.ra] at this;rw [List.append_cancel_left this]
 refine⟨0,g.x,dx,fs,1,e,f.meth _ (),g,st,1,hG,(by rw [hR.ra,am];exact full_len hI),λv1 H1 s1 i1=> ?_⟩
 rw [full_rel hR] at i1;exists 0,o.x,_,o.dx,_,0,s1 _ _ hO.e,T.qy,T.QW,of_fr o,0,g.x,_,dx,fs,0,s1 _ _ e,T.qR,T.Yc,f.Zm,o.dr,0,DPut.k (k:=V9 g.n) (s1 _ _ ad) ()
 have ae:Kp [o.dr,o.df] H (upd H1 o.dr (.dK (putK rk (V9 g.n) v1))):=(Kp.of s1).trans (Kp.updD (s1 _ _ ad) uf);generalize aa:upd H1 o.dr (.dK (putK rk (V9 g.n) v1))=H2 at ae⊢;have ao:H2 o.dr=u_ (.dK (putK rk (V9 g.n) v1)):=by rw [<-aa];exact qh
 have e2:H2 g.x=u_ (.ins a.qK dx fs):=by rw [<-aa,qi ax.symm];exact s1 _ _ e
 have ap:H2 o.x=u_ (.ins a.qp o.dx (ofs o)):=by rw [<-aa,qi ak];exact s1 _ _ hO.e
 have ac:H2 o.df=u_ (.dK fk):=by rw [<-aa,qi ah.symm];exact s1 _ _ ag
 have i2:Is H2 (xg p) v1:=i1.mono (by rw [<-aa];exact Tk.updD (s1 _ _ ad))
 have l2:Is H2 (p.en.getD .non) ev:=by rw [<-hR.en];exact l.mono ae.tk
 obtain⟨kk,ee,aq⟩:∃kk ee,p.en.getD .non= .tup [.str kk,ee]:=by
  cases au:p.en with
  |none=>rw [au] at af;cases af
  |some d=>
   rcases hI.en d au with⟨z,rfl⟩|⟨x,rfl,_⟩|⟨z,rfl⟩
   ·exact[_:0]
   ·exact[_:0]
   ·exact[_:0]
 refine⟨0,g.x,_,dx,fs,0,e2,T.qR,T.Q2,f.f_end,ev,kk,ee,1,(by rwa [<-aq]),λv2 H3 s3 i3=> ?_⟩
 rw [<-aq] at i3;exists 0,o.x,_,o.dx,_,0,s3 _ _ ap,T.qy,T.QA,of_fd o,0,g.x,_,dx,fs,0,s3 _ _ e2,T.qR,T.Yc,f.Zm,o.df,0,DPut.k (k:=V9 g.n) (s3 _ _ ac) ()
 have aw:Tk H3 (upd H3 o.df (.dK (putK fk (V9 g.n) v2))):=Tk.updD (s3 _ _ ac);have ay:Kp [o.dr,o.df] H (upd H3 o.df (.dK (putK fk (V9 g.n) v2))):=(ae.trans (Kp.of s3)).trans (Kp.updD (s3 _ _ ac) (ue _ uf));refine⟨0,o.x,o.dx,0,(by rw [qi al];exact s3 _ _ ap),Wy o _ (),0,_,0,?_⟩
 exact k v1 v2 _ ay (by rw [qi ah];exact s3 _ _ ao) (i2.mono (s3.tk.trans aw)) qh (i3.mono aw)
end
variable {v:V}
theorem no_looked:Vx ("looked_up":Str) [(("by_name":Str),v)]=none:=by rfl
theorem inHN (k:Str):inV (V.str k) [V.str "has",V.str "names"]=isHN k:=by
 have h:=wQ k ["has","names"];refine h.trans ?_;unfold isHN;rw [<-Bool.decide_or,uZ];simp
section
variable {C CM CO:o3}{H:Hp}{g:Gc}{s:Gs}{p:Gp}{Q:VK}{E:XK}
theorem want_sp (G:GoAt C CM H g s)(R:GRel g s p)(I:GI p)(O:p.en=U_)(U:ya p=u_ m)(k:∀kd v H',Same H H'->isHN kd=V7->Is H' (.tup [.str kd,.str m]) v->Q v H'):XX C CM [.ref g.x] H Q E:=by
 erw[ka I O U,hn,h];exists g,s,1,G;rcases h with⟨h1,h2⟩|⟨rs,r,h1,h2⟩
 ·exact .inl ⟨R.none h1,m,by rw [R.mb,h2],λv H' s' i=>k _ v H' s' () i⟩
 ·erw[R.some h1,mc,e1,e2,e3];exact .inr ⟨mc,r,_,e1,h2,λv i=>k _ v H (Same.refl _) () i⟩
theorem want_spO (G:GoAt C CM H g s)(R:GRel g s p)(I:GI p)(O:p.en=U_)(U:ya p=U_)(k:∀rs r kd z v,p.run=u_ (rs,r)->r.th= .tup [.str "asks",.tup [.str kd,.str z]]->isHN kd=v_->isT (.str z)=v_->ownP qs p=yc p (j3 qs kd z)->Is H (.tup [.str kd,.str z]) v->Q v H):XX C CM [.ref g.x] H Q E:=by
 erw[Xv (qs:=qs) I O U,rs,r,kd,z,h1,h2,h3,h4,h5];erw[R.some h1,mc,e1,e2,e3];exact⟨g,s,1,G,.inr ⟨mc,r,_,e1,h2,λv i=>k rs r kd z v h1 h2 h3 h4 h5 i⟩⟩
theorem take_sp (G:GoAt C CM H g s)(R:GRel g s p)(I:GI p)(he:p.en=U_){d:D}{v:V}(hv:Is H d v)(U:∀rs r,p.run=u_ (rs,r)->∃u q,r.th= .tup [.str "asks",.tup [.str u,q]]/\ansB u d=v_)(aa:g.o≠g.x)(ho:∃dx fs,H g.o=u_ (.ins CO dx fs)/\fs.lookup ("runner":Str)=U_)
  (k:∀H' s',Gw g s.run H H'->GoAt C CM H' g s'->GRel g s' (yc p d)->(∀b∈plc g s',b∈plc g s∨H b=U_)->Q .non H'):XG C CM CO [.ref g.x,v] H Q E:=by
 refine⟨g,s,v,d,1,G,by rw [R.n];exact I.n,hv,aa,ho,?_⟩
 cases O:p.run with
 |none=>
  erw[I.no O he,z,hz,_];have hr:=R.none O;refine .inl ⟨hr,z,by rw [R.mb,hz],λH' s' w G' b=> ?_⟩
  obtain⟨r1,r2⟩:=beg_rel (p:=⟨p.n,p.mb,[.tup [.tup [.str "rule",p.mb],d]],U_,U_⟩) b ⟨R.n,R.mb,(by show _= [D.tup [.tup [.str "rule",p.mb],d]];rw [hz]),(by show s.run.map _=U_;rw [hr];rfl),R.own,(by show s.en= .non;rw [R.en,he];rfl)⟩ rfl rfl
  refine k H' s' w G' ?_ λc hc=> ?_
  ·have:yc p d=begP ⟨p.n,p.mb,[.tup [.tup [.str "rule",p.mb],d]],U_,U_⟩ d:=by
    unfold yc;rw [O];show begP ⟨p.n,p.mb,_,U_,p.en⟩ d=_;rw [he]
   rwa [this]
  ·rcases r2 c hc with rfl|h
   ·exact .inl uf
   ·exact .inr h
 |some q=>
  erw[q,rs,r];erw[R.some O,mc,e1,e2,e3];erw[I.run rs r O,k1,k2,k3,k4];erw[U rs r O,u,q,h1,h2];subst e2;refine .inr ⟨mc,r,u,q,e1,e3,k1,k2,h1,h2,λH' w G'=> ?_⟩;have ee:yc p d={p with run:=u_ (mc.rs,ansS mc.rs p.n r d),en:=enOf (ansS mc.rs p.n r d)}:=by unfold yc;rw [O]
  refine k H' _ w G' ?_ ?_
  ·rw [ee,e3,R.n];unfold lookS enOf;by_cases c:QH (ansS mc.rs p.n r d).th=v_
   ·rw [A5 c,A5 c];exact⟨R.n,R.mb,R.ra,1,(λac r' z=>by cases z;exact e3),(by show s.en= .non;rw [R.en,he];rfl)⟩
   ·rw [A4 c,A4 c];exact⟨R.n,R.mb,R.ra,1,(λac r' z=>by cases z;exact e3),1⟩
  ·intro b hb;left;unfold plc at hb⊢;rw [e1];unfold lookS at hb;split at hb<;>exact hb
end
noncomputable def LO (o:Oc):oj o3:= [o.ls,o.du,o.dr,o.df]
structure Bs (CO CP:o3)(H0:Hp)(o:Oc)(qs:oj (Str×D)):Prop where
 oa:OAt CO CP H0 o qs
 ls:∃xs,H0 o.ls=u_ (.lst xs)
 du:∃xs,H0 o.du=u_ (.dK xs)
 dr:∃xs,H0 o.dr=u_ (.dK xs)
 df:∃xs,H0 o.df=u_ (.dK xs)
 nd:(LO o).Nodup
 q:Q0 qs
section
variable {CO CP:o3}{H0 H H':Hp}{o:Oc}{qs:oj (Str×D)}
theorem Bs.at (b:Bs CO CP H0 o qs)(k:Kp (LO o) H0 H):OAt CO CP H o qs:=b.oa.kp k (by
 intro p O;simp only [LO,uz,uD,uM] at O;rcases O with rfl|rfl|rfl|rfl
 ·exact .inl b.ls
 ·exact .inr (.inl b.du)
 ·exact .inr (.inl b.dr)
 ·exact .inr (.inl b.df))
theorem Bs.new (b:Bs CO CP H0 o qs){c:o3}(h:H0 c=U_):c≠o.x/\c≠o.ls/\c≠o.du/\c≠o.dr/\c≠o.df:=by
 erw[b.ls,_,h1];erw[b.du,_,h2];erw[b.dr,_,h3];erw[b.df,_,h4];exact⟨(qk b.oa.e h).symm,(qk h1 h).symm,(qk h2 h).symm,(qk h3 h).symm,(qk h4 h).symm⟩
theorem Bs.nlo (b:Bs CO CP H0 o qs){c:o3}(h:H0 c=U_):c∉LO o:=by
 erw[b.new h,_,h1,h2,h3,h4];simp only [LO,uz,uD,uM,V5];exact⟨h1,h2,h3,h4⟩
theorem kp_more (b:Bs CO CP H0 o qs)(k:Kp (LO o) H0 H)(h:∀c ob,H c=u_ ob->c∉o.df::L->H' c=u_ ob)(t:Tk H H')(O:∀c∈L,H0 c=U_):Kp (LO o) H0 H':=⟨λc ob e n=>h c ob (k.kept c ob e n) (λz=>by
 rcases A8.mp z with rfl|z
 ·exact n (by simp [LO])
 ·rw [O c z] at e;cases e),k.tk.trans t⟩
end
section
variable {qs:oj (Str×D)}{n:Str}{p:Gp}{r don:oj (Str×Gp)}
theorem nxt_own (U:p.en=U_)(hw:ya p=U_):Sy.nxt #[Y,(n,p)::r,don]=[(n,ownP qs p)::r:don]:=by
 have hf:(SyP qs).fin p=false:=by show p.en.isSome=V7;rw [U];rfl
 have O:(SyP qs).want p=none:=hw;unfold Sy.nxt;simp only;rw [hf,A4 u9,O]
 rfl
theorem nxt_tk (U:p.en=U_)(hw:ya p=u_ m){a:om D}(hy:Sy.yet #[Y,(n,p)::r,don] m=u_ (u_ a)):Sy.nxt #[Y,(n,p)::r,don]=[(n,yc p (a.getD .non))::r:don]:=by
 have hf:(SyP qs).fin p=false:=by show p.en.isSome=V7;rw [U];rfl
 have O:(SyP qs).want p=u_ m:=hw;unfold Sy.nxt;simp only;rw [hf,A4 u9,O];simp only;rw [hy]
 rfl
theorem nxt_stk (U:p.en=U_)(hw:ya p=u_ m)(hy:Sy.yet #[Y,(n,p)::r,don] m=u_ U_):Sy.nxt #[Y,(n,p)::r,don]=[(n,stkP p m)::r:don]:=by
 have hf:(SyP qs).fin p=false:=by show p.en.isSome=V7;rw [U];rfl
 have O:(SyP qs).want p=u_ m:=hw;unfold Sy.nxt;simp only;rw [hf,A4 u9,O];simp only;rw [hy]
 rfl
theorem nxt_push (he:p.en=U_)(hw:ya p=u_ m)(U:Sy.yet #[Y,(n,p)::r,don] m=U_):∃p',g0D m (qG qs m)=u_ p'/\Sy.nxt #[Y,(n,p)::r,don]=[(m,p')::(n,p)::r:don]:=by
 have hf:(SyP qs).fin p=false:=by show p.en.isSome=V7;rw [he];rfl
 have O:(SyP qs).want p=u_ m:=hw;erw[Sy.J3 U,_,[p',e],_];exists p',e;unfold Sy.nxt;simp only;rw [hf,A4 u9,O];simp only;rw [U];simp only;rw [e]
theorem nxt_pop {d:D}(O:p.en=u_ d):Sy.nxt #[Y,(n,p)::r,don]=[r:don++ [(n,p)]]:=by
 have U:(SyP qs).fin p=true:=by show p.en.isSome=v_;rw [O];rfl
 unfold Sy.nxt;simp only;rw [U,A5 rfl]
 rfl
end
theorem ansB_thing {d:D}(h:j8 d):ansB "thing" d=true:=by
 unfold ansB;rcases h with rfl|h
 ·rfl
 ·cases hn:XC d with
  |true=>rfl
  |false=>
   rw [A4 u9,A5 h,A4 ()]
   rfl
structure Rnd {qs:oj (Str×D)}(CG CM:o3)(H0 H H1:Hp)(o:Oc)(S:Sy.Ss (SyP qs))(L0:oj o3)(g:Gc)(s1:Gs)(n:Str)(p1:Gp)(r:oj (Str×Gp))(fk1:oj (Key×V))(top:Nat):Prop where
 st:∃j,#[Y,(n,p1)::r,S.don]=Sy.nx S j
 len:fk1.length+Sy.mu #[Y,(n,p1)::r,S.don]<=top
 kp:∀b ob,H b=u_ ob->b∉o.df::L0->H1 b=u_ ob
 tk:Tk H H1
 df:H1 o.df=u_ (.dK fk1)
 fd:FdOk H1 S fk1
 go:GoAt CG CM H1 g s1
 rel:GRel g s1 p1
 pl:∀b∈plc g s1,b∈L0∨H b=U_/\H0 b=U_
 gi:SGI #[Y,(n,p1)::r,S.don]
inductive sp_gon (CO CP CG CM:Addr) (vs:List V) (H:Hp) (Q:VK) (E_:XK):Prop
 |mk (H0:Hp) (o:Oc) (qs:List (Str×D)) (g:Gc) (s:Gs) (n:Str) (p:Gp) (r don:List (Str×Gp)) (uk fk:List (Key×V)) (top:Nat) (_:vs= [.ref o.x,.ref g.x]) (_:Bs CO CP H0 o qs) (_:Kp (LO o) H0 H) (_:H o.du=u_ (.dK uk)) (_:UkOk #[Y,(n,p)::r,don] uk) (_:(∀q∈don,q.2.en.isSome=v_)) (_:top<=100000) (_:g.o=o.x) (_:(∀b∈plc g s,H0 b=U_)) (_:Rnd CG CM H0 H H o #[Y,(n,p)::r,don] (plc g s) g s n p r fk top) (_:∀(v:V) (H':Hp) (s':Gs) (p':Gp) (fk':List (Key×V)),Rnd CG CM H0 H H' o #[Y,(n,p)::r,don] (plc g s) g s' n p' r fk' top->((v= .non/\p'.en.isSome=v_)∨∃m,v= .str m/\p'.en=U_/\ya p'=u_ m/\Sy.yet #[Y,(n,p')::r,don] m=U_)->Q v H')
theorem Rnd.more {qs:oj (Str×D)}{CG CM CO CP:o3}{H0 H H1 H2 H3:Hp}{o:Oc}{S:Sy.Ss (SyP qs)}{L0:oj o3}{g:Gc}{s1 s3:Gs}{n:Str}{p1 p3:Gp}{r:oj (Str×Gp)}{fk1 U:oj (Key×V)}{top:Nat}(b:Bs CO CP H0 o qs)(k0:Kp (LO o) H0 H)(hL:∀b∈L0,H0 b=U_)(h:Rnd CG CM H0 H H1 o S L0 g s1 n p1 r fk1 top)(k2:Kp [o.df] H1 H2)(f2:H2 o.df=u_ (.dK U))(d2:FdOk H2 S U)(l2:U.length<=fk1.length+1)
  (ac:∀b ob,H2 b=u_ ob->b∉plc g s1->H3 b=u_ ob) (t3:Tk H2 H3) (G3:GoAt CG CM H3 g s3) (R3:GRel g s3 p3) (ae:∀b∈plc g s3,b∈plc g s1∨H2 b=U_) (e:Sy.nxt #[Y,(n,p1)::r,S.don]=[(n,p3)::r:S.don]):
  Rnd CG CM H0 H H3 o S L0 g s3 n p3 r U top/\Sy.mu #[Y,(n,p3)::r,S.don]<Sy.mu #[Y,(n,p1)::r,S.don]:=by
 have ad:=Sy.nxt_mu (Qq qs) (S:=#[Y,(n,p1)::r,S.don]) (by intro z;cases z)
 rw [e] at ad;have af:∀b∈plc g s1,H0 b=none:=λb hb=>(h.pl b hb).elim (hL b) (·.2);have nf:o.df∉plc g s1:=λz=>(b.new (af _ z)).2.2.2.2 rfl;have ag:∀b ob,H1 b=u_ ob->b∉o.df::plc g s1->H3 b=u_ ob:=λc ob q z=>ac c ob (k2.kept c ob q (λy=>z (by rw [A9.mp y];exact uf))) (λy=>z (ue _ y))
 refine⟨⟨?_,by have:=h.len;omega,λc ob q z=> ?_,(h.tk.trans k2.tk).trans t3,ac _ _ f2 nf,d2.mono t3,G3,R3,λc hc=> ?_,?_⟩,ad⟩
 ·erw[h.st,j,hj];exact⟨j+1,by show _=Sy.nxt (Sy.nx S j);rw [<-hj,e]⟩
 ·refine ag c ob (h.kp c ob q z) λy=> ?_;rcases A8.mp y with rfl|y
  ·exact z uf
  ·rcases h.pl c y with y|⟨y,_⟩
   ·exact z (ue _ y)
   ·rw [q] at y;cases y
 ·rcases ae c hc with hc|hc
  ·exact h.pl c hc
  ·have O:H1 c=none:=by
    cases hq:H1 c with
    |none=>rfl
    |some ob=>
     by_cases y:c=o.df
     ·rw [y,f2] at hc;cases hc
     ·rw [k2.kept c ob hq (λz=>y (A9.mp z))] at hc;cases hc
   by_cases c0:c∈L0
   ·exact .inl c0
   ·right;have aa:H c=none:=by
     cases hq:H c with
     |none=>rfl
     |some ob=>
      by_cases y:c=o.df
      ·rw [y,h.df] at O;cases O
      ·rw [h.kp c ob hq (λz=>by rcases A8.mp z with z|z;exact y z;exact c0 z)] at O;cases O
    exists aa;cases hq:H0 c with
    |none=>rfl
    |some ob=>
     by_cases y:c∈LO o
     ·have:=kp_more b k0 h.kp h.tk hL;simp only [LO,uz,uD,uM] at y;have keep:∀x,(∃xs,H0 x=u_ (.lst xs))∨(∃xs,H0 x=u_ (.dK xs))->H1 x≠none:=λx hx hn=>by
       rcases hx with⟨xs,hx⟩|⟨xs,hx⟩
       ·erw[this.tk.lst x xs hx,ys,hy];rw [hy] at hn;cases hn
       ·erw[this.tk.dct x xs hx,ys,hy];rw [hy] at hn;cases hn
      rcases y with rfl|rfl|rfl|rfl
      ·exact absurd O (keep _ (.inl b.ls))
      ·exact absurd O (keep _ (.inr b.du))
      ·exact absurd O (keep _ (.inr b.dr))
      ·exact absurd O (keep _ (.inr b.df))
     ·rw [k0.kept c ob hq y] at aa;cases aa
 ·have:=nxt_gi b.q h.gi;rwa [e] at this
section
variable {P:o9}{w:og}{K:o0}{mg:Str->om o6}{base:o8}{a:Ad}{g:Ga}
theorem ok_gon (T:Tx K mg a)(C:Fx K w mg g a):#[K,11,a.YZ,a.YS,["self","going"],(sp_gon a.qp a.qO a.qK a.qo)]:=by
 have Wo:=#[ok_wanted,T];have Jl:=#[ok_gtake,T,C];have xx:=#[ok_looked,T];have QR:=#[ok_yet,T];exists 9,T.g_PlainOrder_go_on,yi
 erw[h,H0,o,qs,gc,st,n,p,r,don,uk,fk,top,rfl,hB,hK,aK,hU,ap,aX,aq,hL,h0,k];have hs:=uB;exists _,%[#[J5,#[qq,Ym,#[qN,5,pv 1,rfl],qX],%[#[qC,(2),yi.nd,#[QB,pv 1,T.qR,T.g_Going_wanted,Wo]],#[qI,#[qq,8,QZ,#[qH,qF,pv 2,ql],#[qE,#v[qm,qm]],#[w]],%[#[qV,#[Qv,pv 1,T.qR,T.g_Going_take,Jl,#v[#[Qv,#[qN,5,pv 0,rfl],T.YG,T.g_Project_looked_up,xx,#v[pv 2]]]]]|ps_continue],qv],#[qC,(3),yi.nd,#[Qv,pv 0,T.qy,T.g_PlainOrder_answer_yet,QR,#v[#[qH,qF,pv 2,ql]]]],#[qI,#[qq,Ym,pv 3,qX],%[|#[qt,#[qH,qF,pv 2,ql]]],qv]|#[qI,#[qq,Qs,#[qH,qF,pv 3,ql],qm],%[|#[qV,#[Qv,pv 1,T.qR,T.g_Going_take,Jl,#v[#[qH,qF,pv 3,ql]]]]],%[|#[qI,#[qq,Qs,#[qH,qF,pv 3,ql],qm],%[|#[qV,#[Qv,pv 1,T.qR,T.g_Going_take,Jl,#v[qX]]]],%[|#[Qc,8,pv 1,#[qE,#v[qm,#[qH,qF,pv 2,ql]]],rfl]]]]]]]|#[qt,qX]]
 exists 7
 let J_:Nat->L2.St->Hp->Prop:=λmm σ H1=>∃(s1:Gs) (p1:Gp) (fk1:oj (Key×V)) (u3 u4:om V),σ= [u_ (.ref o.x),u_ (.ref gc.x),u3,u4]/\mm=Sy.mu #[Y,(n,p1)::r,don]/\Rnd a.qK a.qo H0 H H1 o #[Y,(n,p)::r,don] (plc gc st) gc s1 n p1 r fk1 top
 exists J_,⟨_,st,p,fk,U_,U_,1,1,h0⟩;rintro mm σ H1 ⟨s1,p1,fk1,u3,u4,rfl,rfl,O⟩;have aL:=kp_more hB hK O.kp O.tk hL;have aa:=hB.at aL;have au:∀b∈plc gc s1,H0 b=none:=λb hb=>(O.pl b hb).elim (hL b) (·.2);erw[O.gi (n,p1) (.inl uf),hI,aZ];have hI:GI p1:=hI;have aw:H1 o.du=u_ (.dK uk):=O.kp _ _ aK (λz=>by
  rcases A8.mp z with z|z
  ·have:=hB.nd;simp [LO] at this;exact this.2.1.2 z
  ·exact(hB.new (hL _ z)).2.2.1 rfl)
 erw[id O.go,dx,fs,mv,av,rv,ev,e,f,i,j,a1,l];have a2:fs.length<1000:=by have:=f.len;omega
 exists 0,gc.x,_,dx,fs,0,e,T.qR,T.Q2,f.f_end,1,0;cases he:p1.en with
 |some d=>
  have l':Is H1 d ev:=by have:=l;rwa [O.rel.en,he] at this
  have aM:d≠ .non:=by rcases hI.en d he with⟨z,rfl⟩|⟨x,rfl,_⟩|⟨z,rfl⟩<;>(intro z;cases z)
  refine iteN (uc (zB l' aM)) ?_;exact k _ H1 s1 p1 fk1 O (.inl ⟨1,by rw [he];rfl⟩)
 |none=>
  have l':Is H1 .non ev:=by have:=l;rwa [O.rel.en,he] at this
  cases(show ev= .non from l')
  refine iteB (ub rfl) ?_;exists λσ' H'=>∃m',m'<Sy.mu #[Y,(n,p1)::r,don]/\J_ m' σ' H',λ_ _ h=>h;exists 8,B1,b1;have ax:gc.o≠gc.x:=by rw [aq];exact(hB.new (hL _ uf)).1.symm
  have ak:∀H2:Hp,(∀b ob,H1 b=u_ ob->b∉o.df::plc gc s1->H2 b=u_ ob)->∃dx fs,H2 gc.o=u_ (.ins a.qp dx fs)/\fs.lookup ("runner":Str)=none:=λH2 h2=>⟨_,_,(by rw [aq];exact h2 _ _ aa.e (λz=>by
   rcases A8.mp z with z|z
   ·have:=aa.e;rw [z,O.df] at this;cases this
   ·exact(hB.new (au _ z)).1 rfl)),Wy o _ ()⟩
  cases hw:ya p1 with
  |none=>
   exists 0,gc.x,dx,fs,1,e,f.meth _ ()
   refine want_spO (E:=E0) (qs:=qs) O.go O.rel hI he hw λrs rr kd z v ay al ac hz aA hv=>b1 _ _ ?_;exists 8,B2,b2;erw[id hv,q,ws,rfl,hq,w1,r1,rfl,[rfl,aN],w2,r2,rfl,[rfl,aB],h3];cases(show r2= [] from h3)
   refine⟨0,q,_,_,0,1,SqT.of hq,1,(sml rfl),λt ht=> ?_⟩;have s2:=qg ht (.tup [V.str "has",V.str "names"]);exists t,0,.inr (SqT.of qh),1,1,0;refine iteB ((inHN kd).trans ac) ?_;erw[id aa.p,aO,dp,op,a3,hx,hd,hk,a4];have a5:z.length<=300:=by
    have:=yf hz;simp only [good,Qp,ur,uH] at this;exact this.1
   erw[Ka hB.q z ac,a6,aP];generalize a7:upd H1 t (.tup [V.str "has",V.str "names"])=H2 at s2⊢;have fin:∀(u:V) (H3:Hp),Same H2 H3->Is H3 (j3 qs kd z) u->XG a.qK a.qo a.qp [.ref gc.x,u] H3 (λ_ H4=>∃m',m'<Sy.mu #[Y,(n,p1)::r,don]/\J_ m' [u_ (.ref o.x),u_ (.ref gc.x),u_ (.ref q),u4] H4) E0:=λu H3 s3 hu=>by
    have U:=s2.trans s3;refine take_sp (O.go.same U) O.rel hI he hu (λaQ r' e'=> ?_) ax (ak H3 λb ob h _=>U b ob h) λH4 s4 w4 G4 R4 aR=> ?_
    ·rw [ay] at e';cases e';exact⟨kd,_,al,aP⟩
    ·rw [<-aA] at R4;have kq:∀b ob,H3 b=u_ ob->b∉plc gc s1->H4 b=u_ ob:=λb ob h n=>w4.kept b ob h (λy=>n (by rw [y];exact uf)) (λmc r' y=>by
      unfold plc at n;rw [y] at n;simp only [plcR,uz,uD,uM,V5] at n;exact[n.2.1:n.2.2.1:n.2.2.2])
     erw[O.more hB hK hL (Kp.of U) (U _ _ O.df) (O.fd.mono U.tk) (GQ _) kq w4.tk G4 R4 aR (nxt_own he hw),m1,m2];exact⟨_,m2,s4,_,fk1,_,0,1,m1⟩
   exists 0,gc.x,dx,fs,1,s2 _ _ e,f.meth _ ()
   exists 0,o.x,_,o.dx,_,0,s2 _ _ aa.e,T.qy,T.Qb,of_gp o;exists o.px,aO,0,s2 _ _ hx,no_looked,0,o.px,q,kd,z,qs,1,aa.p.same s2,hB.q,s2 _ _ hq,()
   have aC:kd="has"∨kd≠"has"/\kd="names":=by
    unfold isHN at ac;by_cases c:kd="has"
    ·exact .inl c
    ·rw [uc c,FK] at ac;exact .inr [c:um ac]
   rcases aC with c|⟨c',c⟩
   ·refine .inl [c:fin _ H2 (Same.refl _) ?_];unfold j3;rw [A5 c];exact yU (by split<;>decide)
   ·refine .inr [c:λu H3 s3 hu=>fin u H3 s3 ?_];unfold j3;rwa [A4 c']
  |some m=>
   erw[ka hI he hw,a8,al];exists 0,gc.x,dx,fs,1,e,f.meth _ ()
   refine want_sp (E:=E0) O.go O.rel hI he hw λkd v H2 s2 ac hv=>b1 _ _ ?_;exists 8,B2,b2;erw[id hv,q,ws,rfl,hq,w1,r1,rfl,[rfl,aN],w2,r2,rfl,[rfl,aB],h3];cases(show r2= [] from h3)
   refine⟨0,q,_,_,0,1,SqT.of hq,1,(sml rfl),λt ht=> ?_⟩;have s3:=qg ht (.tup [V.str "has",V.str "names"]);exists t,0,.inr (SqT.of qh),1,1,0;refine iteN ((inHN kd).trans ac) (b2 _ _ ?_);exists 8,B3,b3;generalize upd H2 t (.tup [V.str "has",V.str "names"])=H3 at s3⊢;have U:=s2.trans s3;have aD:=s3 _ _ hq;have aE:SGI #[Y,(n,p1)::r,don]:=O.gi;exists 0,o.x,o.dx,0,U _ _ aa.e,Wy o _ ()
   refine⟨0,q,_,_,0,1,SqT.of aD,1,o,m,qs,#[Y,(n,p1)::r,don],uk,fk1,1,[U _ _ aa.e:aa.p.same U],hB.q,aE,U _ _ aw,hU,U _ _ O.df,O.fd.mono U.tk,(by have:=O.len;omega),ap,λu H4 am k4 f4 d4 l4 aS y4=> ?_⟩
   have ad:Kp [o.df] H1 H4:=(Kp.of U).trans k4;have aF:H4 q=u_ (.tup [V.str kd,V.str m]):=k4.tk.tup _ _ aD;have aT:o.df∉plc gc s1:=λz=>(hB.new (au _ z)).2.2.2.2 rfl;have G4:GoAt a.qK a.qo H4 gc s1:=O.go.frame (λb hb ob h=>ad.kept b ob h (λz=>aT (by rwa [<-A9.mp z]))) ad.tk
   erw[id G4,ao,ae,a9,ba,bb,bc,e4,af,i4,j4,aG,be];refine b3 _ _ ?_;exists 8,B4,b4;exists 0,1,0;unfold YetIs at y4;cases hy:Sy.yet #[Y,(n,p1)::r,don] m with
   |none=>
    rw [hy] at y4;cases(show u= .non from y4)
    refine iteB (ub rfl) ⟨0,q,_,_,0,1,SqT.of aF,1,?_⟩;refine k _ H4 s1 p1 am ⟨O.st,(by rw [aS hy];exact O.len),λb ob h z=>ad.kept b ob (O.kp b ob h z) (λy=>z (by rw [A9.mp y];exact uf)),O.tk.trans ad.tk,f4,d4,G4,O.rel,O.pl,O.gi⟩ (.inr ⟨m,1,he,hw,hy⟩)
   |some oa=>
    rw [hy] at y4;erw[y4,d,hd,ha,_];have sh:∃kk rr,d= .tup (.str kk::rr):=by
     cases oa with
     |none=>erw[ha,kk,rr,h,_];exact[kk:rr:h]
     |some x=>cases x with
      |none=>exact[_:_:ha]
      |some y=>exact[_:_:ha]
    erw[sh,kk,rr,rfl];erw[id hd,qa,wa,rfl,ag,w1,r1,rfl,[rfl,aY],h3];refine iteN (uc (λz=>by cases z)) (b4 _ _ ?_)
    exists 0,qa,_,_,0,1,SqT.of ag,Qm (j:=0) rfl,1,0;have fin:∀(dd:D) (u:V),Is H4 dd u->j8 dd->Sy.nxt #[Y,(n,p1)::r,don]=⟨(n,yc p1 dd)::r,don⟩->XG a.qK a.qo a.qp [.ref gc.x,u] H4 (λ_ H5=>∃m',m'<Sy.mu #[Y,(n,p1)::r,don]/\J_ m' [u_ (.ref o.x),u_ (.ref gc.x),u_ (.ref q),u_ (.ref qa)] H5) E0:=λdd u hu hok ah=>by
     refine take_sp G4 O.rel hI he hu (λaQ r' e'=> ?_) ax (ak H4 λb ob h n=>ad.kept b ob h (λz=>n (by rw [A9.mp z];exact uf))) λH5 s5 w5 G5 R5 aU=> ?_
     ·rcases al with⟨h1,_⟩|⟨rs,rr,h1,h2⟩
      ·rw [h1] at e';cases e'
      ·rw [h1] at e';cases e';exact⟨"thing",_,h2,ansB_thing hok⟩
     ·have kq:∀b ob,H4 b=u_ ob->b∉plc gc s1->H5 b=u_ ob:=λb ob h n=>w5.kept b ob h (λy=>n (by rw [y];exact uf)) (λmc r' y=>by
       unfold plc at n;rw [y] at n;simp only [plcR,uz,uD,uM,V5] at n;exact[n.2.1:n.2.2.1:n.2.2.2])
      erw[O.more hB hK hL ad f4 d4 l4 kq w5.tk G5 R5 aU ah,m1,m2];exact⟨_,m2,s5,_,am,_,0,1,m1⟩
    cases oa with
    |some x=>
     have hok:=yet_ok hB.q aE hy;have ah:=nxt_tk he hw hy;cases x with
     |some y=>
      cases(show D.tup (.str kk::rr)= .tup [.str "value",y] from ha)
      erw[h3,w5,r5,rfl,h5,h6];cases(show r5= [] from h6)
      refine iteB (ub rfl) ?_;exact⟨0,gc.x,ao,ae,1,e4,af.meth _ (),0,qa,_,_,0,1,SqT.of ag,1,fin y w5 h5 hok ah⟩
     |none=>
      cases(show D.tup (.str kk::rr)= .tup [.str "lack"] from ha)
      refine iteN () ?_
      exists 0,qa,_,_,0,1,SqT.of ag,Qm (j:=0) rfl,1,0;refine iteB (ub rfl) ?_;exact⟨0,gc.x,ao,ae,1,e4,af.meth _ (),fin .non .non rfl hok ah⟩
    |none=>
     erw[ha,k2,r2,e5,c1,c2];cases e5;refine iteN (uc (λz=>c1 (V.str.inj z))) ?_;exists 0,qa,_,_,0,1,SqT.of ag,Qm (j:=0) rfl,1,0;refine iteN (uc (λz=>c2 (V.str.inj z))) ?_;refine⟨0,q,_,_,0,1,SqT.of aF,1,(sml rfl),λt5 aH=> ?_⟩;have s5:=qg aH (.tup [V.str "stuck",V.str m]);have aI:ae.length<1000:=by have:=af.len;omega
     exists 0,gc.x,_,ao,ae,1,s5 _ _ e4,T.qR,T.Q2,aI;have aV:=Is.new (H:=H4) (ds:= [.str "stuck",.str m]) (p:=t5) ⟨_,0,yU (),_,0,[1:aB],1⟩ aH
     erw[WE (C:=a.qK) (CM:=a.qo) (g:=gc) (s:={s1 with en:= .tup [.str "stuck",.str m]}) (s5 _ _ e4) (af.set_end (u:= .ref t5)) (i4.mono s5.tk) (j4.mono s5.tk) (aG.same s5) aV,g1,g2]
     have aJ:GRel gc {s1 with en:= .tup [.str "stuck",.str m]} (stkP p1 m):=⟨O.rel.n,O.rel.mb,O.rel.ra,O.rel.run,O.rel.own,1⟩
     have aW:Kp [o.df] H1 (upd H4 t5 (.tup [V.str "stuck",V.str m])):=ad.trans (Kp.of s5);obtain⟨m1,m2⟩:=O.more hB hK hL aW (s5 _ _ f4) (d4.mono s5.tk) l4 (λb ob h n=>g2.kept b ob h (λy=>n (by rw [y];exact uf))) g2.tk g1 aJ (λb hb=> .inl hb) (nxt_stk he hw hy)
     exact⟨_,m2,_,_,am,_,0,1,m1⟩
noncomputable def xI (CG CM:o3)(H:Hp)(ox:o3):oj (Gc×Gs)->oj (Str×Gp)->Prop
 | [],[]=>True
 |q::t,p::l=>GoAt CG CM H q.1 q.2/\GRel q.1 q.2 p.2/\q.1.o=ox/\xI CG CM H ox t l
 |_,_=>False
noncomputable def plcs:oj (Gc×Gs)->oj o3
 | []=> []
 |q::t=>plc q.1 q.2++plcs t
noncomputable def Sep:oj (Gc×Gs)->Prop
 | []=>True
 |q::t=>(∀b∈plc q.1 q.2,b∉plcs t)/\Sep t
theorem xI.frame {CG CM ox:o3}{H H':Hp}:∀{st:oj (Gc×Gs)}{l:oj (Str×Gp)},xI CG CM H ox st l->(∀b∈plcs st,∀ob,H b=u_ ob->H' b=u_ ob)->Tk H H'->xI CG CM H' ox st l
 | [],[],_,_,_=>trivial
 | [],_::_,h,_,_=>h.elim
 |_::_,[],h,_,_=>h.elim
 |q::t,p::l,⟨h1,h2,h3,h4⟩,hk,tk=>⟨h1.frame (λb O=>hk b (ve _ O)) tk,h2,h3,xI.frame h4 (λb O=>hk b (uJ _ O)) tk⟩
theorem xI.there {CG CM ox:o3}{H:Hp}:∀{st:oj (Gc×Gs)}{l:oj (Str×Gp)},xI CG CM H ox st l->∀b∈plcs st,∃ob,H b=u_ ob
 | [],[],_=>λb O=>by cases O
 | [],_::_,h=>h.elim
 |_::_,[],h=>h.elim
 |q::t,p::l,⟨h1,h2,h3,h4⟩=>λb O=>by
  rcases Aa.mp O with O|O
  ·exact h1.there b O
  ·exact xI.there h4 b O
theorem xI.len {CG CM ox:o3}{H:Hp}:∀{st:oj (Gc×Gs)}{l:oj (Str×Gp)},xI CG CM H ox st l->st.length=l.length
 | [],[],_=>rfl
 | [],_::_,h=>h.elim
 |_::_,[],h=>h.elim
 |q::t,p::l,⟨h1,h2,h3,h4⟩=>by rw [ui,ui,xI.len h4]
theorem lfts_len {Y:Sy}:∀l:oj (Str×Y.G),l.length<=Sy.lfts l
 | []=>uh _
 |(_,g)::r=>by
  have:=lfts_len r;show r.length+1<=Y.lft g+1+Sy.lfts r;omega
theorem mu_S0 (O:Q0 qs)(n:Str):Sy.mu (Sy.S0 (SyP qs) n)<=20000:=by
 have U:=O.2.2;have hr:∀S:Sy.Ss (SyP qs),(Sy.rest S).length<=60:=λS=>by
  have h1:(Sy.rest S).length<=(qs.map (·.1)).length:=vq _ _;rw [ua] at h1;omega
 unfold Sy.mu;have h2:=hr (Sy.S0 (SyP qs) n);have h3:(SyP qs).M=302:=rfl;rw [h3];have h4:Sy.lfts (Sy.S0 (SyP qs) n).stk<=303:=by
  unfold Sy.S0;cases hg:(SyP qs).g0 n with
  |none=>exact uN _
  |some g=>
   have:=(Qq qs).l0 n g hg;show(SyP qs).lft g+1+0<=303;have h3:(SyP qs).M=302:=rfl;omega
 omega
structure OI {qs:oj (Str×D)}(CG CM:o3)(H0 H:Hp)(o:Oc)(n0:Str)(S:Sy.Ss (SyP qs))(st:oj (Gc×Gs))(uk rk fk:oj (Key×V)):Prop where
 kp:Kp (LO o) H0 H
 nx:∃j,S=Sy.nx (Sy.S0 (SyP qs) n0) j
 ls:H o.ls=u_ (.lst (st.reverse.map λq=>V.ref q.1.x))
 du:H o.du=u_ (.dK uk)
 uo:UkOk S uk
 ul:uk.length+Sy.mu S<=20001
 dr:H o.dr=u_ (.dK rk)
 rks:rk.map (·.1)=S.don.map λp=>V9 p.1
 rv:L2.IsL H (S.don.map λp=>xg p.2) (rk.map (·.2))
 rl:S.don.length+Sy.mu S<=20001
 df:H o.df=u_ (.dK fk)
 fd:FdOk H S fk
 fl:fk.length+Sy.mu S<=20001
 stk:xI CG CM H o.x st S.stk
 new:∀b∈plcs st,H0 b=U_
 sep:Sep st
 gi:SGI S
 fin:∀q∈S.don,(Gp.en q.2).isSome=v_
 nd:(S.stk.map (·.1)++S.don.map (·.1)).Nodup
theorem S0_nd (n:Str)(j:Nat):((Sy.nx (Sy.S0 (SyP qs) n) j).stk.map (·.1)++(Sy.nx (Sy.S0 (SyP qs) n) j).don.map (·.1)).Nodup:=by
 cases O:(SyP qs).g0 n with
 |some g=>exact(Sy.nx_ok (Qq qs) (Sy.S0_ok O) j).nd
 |none=>
  have e:Sy.nx (Sy.S0 (SyP qs) n) j=⟨[],[]⟩:=by
   have U:Sy.S0 (SyP qs) n=⟨[],[]⟩:=by unfold Sy.S0;rw [O]
   rw [U]
   induction j with
   |zero=>rfl
   |succ j ih=>show Sy.nxt _=_;rw [ih];rfl
  rw [e];exact vV
inductive sp_thru (CO CP:Addr) (vs:List V) (H:Hp) (Q:VK) (E_:XK):Prop
 |mk (o:Oc) (qs:List (Str×D)) (n:Str) (_:vs= [.ref o.x,.str n]) (_:Bs CO CP H o qs) (_:H o.ls=u_ (.lst [])) (_:H o.du=u_ (.dK [])) (_:H o.dr=u_ (.dK [])) (_:H o.df=u_ (.dK [])) (_:∀(H':Hp) (rk uk fk:List (Key×V)) (don:List (Str×Gp)) (j:Nat),H' o.du=u_ (.dK uk)->UkOk #[Y,[],don] uk->H' o.df=u_ (.dK fk)->FdOk H' #[Y,[],don] fk->fk.length<=20001->SGI #[Y,[],don]->Kp (LO o) H H'->Sy.nx (Sy.S0 (SyP qs) n) j=⟨[],don⟩->H' o.dr=u_ (.dK rk)->(rk.map (·.1)=don.map λp=>V9 p.1)->L2.IsL H' (don.map λp=>xg p.2) (rk.map (·.2))->(∀p∈don,GI p.2/\p.2.en.isSome=v_)->don.length<=20001->Q .non H')
theorem kC {α:Type}{xs:oj α}{x:α}:atI (xs++ [x]) (-1)=u_ x:=by
 unfold atI ixN;have O:(xs++ [x]).length=xs.length+1:=by simp
 rw [A4 (),A5 ()]
 show(xs++ [x])[(-1+((xs++ [x]).length:Int)).toNat]? =u_ x;rw [show(-1+((xs++ [x]).length:Int)).toNat=xs.length by omega]
 simp
theorem nx_add {Y:Sy}(S:Sy.Ss Y)(i:Nat):∀j,Sy.nx S (i+j)=Sy.nx (Sy.nx S i) j
 |0=>rfl
 |j+1=>by show Sy.nxt (Sy.nx S (i+j))=Sy.nxt (Sy.nx (Sy.nx S i) j);rw [nx_add S i j]
theorem nx_le {qs:oj (Str×D)}(S:Sy.Ss (SyP qs)):∀j,Sy.mu (Sy.nx S j)<=Sy.mu S
 |0=>uh _
 |j+1=>by
  have h:=nx_le S j;show Sy.mu (Sy.nxt (Sy.nx S j))<=_;by_cases c:(Sy.nx S j).stk= []
  ·have e:Sy.nxt (Sy.nx S j)=Sy.nx S j:=by unfold Sy.nxt;rw [c]
   rwa [e]
  ·have:=Sy.nxt_mu (Qq qs) c;omega
theorem ok_thru (T:Tx K mg a)(C:Fx K w mg g a):#[K,13,a.yE,a.yH,["self","name"],(sp_thru a.qp a.qO)]:=by
 have QR:=#[ok_yet,T];have Y0:=#[ok_enter,T,C];have XV:=#[ok_gon,T,C];have Xi:=#[ok_settle,T];exists 9,T.g_PlainOrder_go_through,QI
 erw[h,o,qs,n,rfl,hB,bE,bh,bF,bG,k];have hs:=uB;have hO:=hB.oa;exists _,%[#[qI,#[qq,Ym,#[Qv,pv 0,T.qy,T.g_PlainOrder_answer_yet,QR,#v[pv 1]],qX],%[|#[qV,#[Qv,pv 0,T.qy,T.g_PlainOrder_enter,Y0,#v[pv 1]]]],qv]|#[J5,#[pt_truth,3,#[qN,5,pv 0,rfl],(λ_=>rfl)],%[#[qC,(2),QI.nd,#[qH,yK,#[qN,5,pv 0,rfl],#[pe_un,6,un_neg,ql]]],#[qC,(3),QI.nd,#[Qv,pv 0,T.qy,T.g_PlainOrder_go_on,XV,#v[pv 2]]]|#[qI,#[qq,Ym,pv 3,qX],%[#[qV,#[pe_bm0,9,uR,PySem.F.slot_list_pop,PySem.F.type_list_pop,mt_pop,#[qN,5,pv 0,rfl],_,_]],#[qV,#[pe_dpop1,7,#[qN,5,pv 0,rfl],#[qN,5,pv 2,rfl],⟨1,1,1,1⟩]]|#[qV,#[Qv,pv 0,T.qy,T.g_PlainOrder_settle,Xi,#v[pv 2]]]],%[|#[qV,#[Qv,pv 0,T.qy,T.g_PlainOrder_enter,Y0,#v[pv 3]]]]]]]]
 exists 7
 have bH:=mu_S0 hB.q n;exists 8,N,hN;have bI:∀(H1:Hp) (S:Sy.Ss (SyP qs)) (st:oj (Gc×Gs)) (uk rk fk:oj (Key×V)),OI a.qK a.qo H H1 o n S st uk rk fk->N [u_ (.ref o.x),u_ (.str n),U_,U_] H1:=by
  intro H1 S st uk rk fk h1;refine hN _ _ ?_
  let J_:Nat->L2.St->Hp->Prop:=λmm σ H2=>∃(S:Sy.Ss (SyP qs)) (st:oj (Gc×Gs)) (uk rk fk:oj (Key×V)) (u3 u4:om V),σ= [u_ (.ref o.x),u_ (.str n),u3,u4]/\mm=Sy.mu S/\OI a.qK a.qo H H2 o n S st uk rk fk
  exists J_,⟨_,S,st,uk,rk,fk,U_,U_,1,1,h1⟩;clear h1 bh bF bG bE;rintro mm σ H2 ⟨S,st,uk,rk,fk,u3,u4,rfl,rfl,hI⟩;have bo:=hB.at hI.kp;exists 0,o.x,_,o.dx,_,0,bo.e,T.qy,T.Qz,of_st o,_,.inl [_:SqL.of hI.ls:1];obtain⟨(stk:oj (Str×Gp)),(don:oj (Str×Gp))⟩:=S;have ax:xI a.qK a.qo H2 o.x st stk:=hI.stk;cases st with
  |nil=>
   cases stk with
   |cons p l=>exact ax.elim
   |nil=>
    refine iteN rfl ?_;erw[hI.nx,j,hj];exact k H2 rk uk fk don j hI.du hI.uo hI.df hI.fd (by have:=hI.fl;omega) hI.gi hI.kp hj.symm hI.dr hI.rks hI.rv (λp hp=>[(hI.gi p (.inr hp)).1:hI.fin p hp]) (by have:=hI.rl;have e:(#[Y,[],don].don).length=don.length:=rfl;omega)
  |cons q t=>
   erw[q,gc,gs];cases stk with
   |nil=>exact ax.elim
   |cons p l=>
    erw[p,O,p];erw[ax,hG,bp,bJ,hT];have hG:GoAt a.qK a.qo H2 gc gs:=hG;have bp:GRel gc gs p:=bp;have am:H2 o.ls=u_ (.lst ((t.reverse.map λq=>V.ref q.1.x)++ [V.ref gc.x])):=by
     have:=hI.ls;rwa [UX,Vc] at this
    refine iteB (by rw [UX,Vc];show(!((tt _ t.reverse)++ [V.ref gc.x]).isEmpty)=v_;simp) ?_
    exists λσ' H'=>∃m',m'<Sy.mu #[Y,(O,p)::l,don]/\J_ m' σ' H',λ_ _ h=>h;exists 8,B1,b1;refine⟨0,o.x,_,o.dx,_,0,bo.e,T.qy,T.Qz,of_st o,0,o.ls,_,_,0,1,SqL.of am,kC,b1 _ _ ?_⟩;exists 8,B2,b2;have ao:∀b∈plc gc gs,H b=none:=λb U=>hI.new b (ve _ U);have ac:∀b∈plcs t,H b=none:=λb U=>hI.new b (uJ _ U);have bK:∃j,#[Y,(O,p)::l,don]=Sy.nx #[Y,(O,p)::l,don] j:=[(0):1];refine⟨0,o.x,o.dx,0,bo.e,Wy o _ (),0,H,o,qs,gc,gs,O,p,l,don,uk,fk,(20001),1,hB,hI.kp,hI.du,hI.uo,hI.fin,(),bJ,ao,⟨bK,hI.fl,λ_ _ h _=>h,Tk.refl _,hI.df,hI.fd,hG,bp,λb U=> .inl U,hI.gi⟩,λv H3 ak p3 ad hR hv=> ?_⟩
    have aW:Sy.mu #[Y,(O,p3)::l,don]<=Sy.mu #[Y,(O,p)::l,don]:=by
     erw[hR.st,j,hj];have hj:#[Y,(O,p3)::l,don]=Sy.nx #[Y,(O,p)::l,don] j:=hj;rw [hj];exact nx_le _ _
    have bL:∃j,#[Y,(O,p3)::l,don]=Sy.nx (Sy.S0 (SyP qs) n) j:=by
     erw[hR.st,j,hj];erw[hI.nx,i,hi];have hj:#[Y,(O,p3)::l,don]=Sy.nx #[Y,(O,p)::l,don] j:=hj;exact⟨i+j,by rwa [nx_add,<-hi]⟩
    have ap:Kp (LO o) H H3:=kp_more hB hI.kp hR.kp hR.tk ao;have ay:=hB.at ap;have aq:∀b∈plc gc ak,H b=none:=λb U=>(hR.pl b U).elim (ao b) (·.2);have out:∀b,b∈LO o->b≠o.df->b∉o.df::plc gc gs:=λb U hn z=>by
     rcases A8.mp z with z|z
     ·exact hn z
     ·exact hB.nlo (ao b z) U
    have b3:o.ls≠o.du/\o.ls≠o.dr/\o.ls≠o.df/\o.du≠o.dr/\o.du≠o.df/\o.dr≠o.df:=by
     have h:=hB.nd;simp only [LO,Uz,uz,uD,uM,V5,vV,and_true,UW] at h;exact⟨h.1.1,h.1.2.1,h.1.2.2,h.2.1.1,h.2.1.2,h.2.2⟩
    erw[b3,d1,d2,d3,d4,d5,d6];have af:=hR.kp _ _ am (out _ (by simp [LO]) d3)
    have aA:=hR.kp _ _ hI.du (out _ (by simp [LO]) d5)
    have aB:=hR.kp _ _ hI.dr (out _ (by simp [LO]) d6)
    have bq:xI a.qK a.qo H3 o.x t l:=hT.frame (λb U ob h=>hR.kp b ob h (λz=>by
     rcases A8.mp z with z|z
     ·exact(hB.new (ac b U)).2.2.2.2 z
     ·exact hI.sep.1 b z U)) hR.tk
    have bt:∀b∈plc gc ak,b∉plcs t:=λb U z=>by
     rcases hR.pl b U with U|⟨U,_⟩
     ·exact hI.sep.1 b U z
     ·erw[hT.there b z,ob,e];rw [e] at U;cases U
    have b4:GI p3:=(hR.gi (O,p3) (.inl uf)).1;have aX:p3.n=O:=(hR.gi (O,p3) (.inl uf)).2;have bM:=hI.ul;have bN:=hR.len;have b5:=hI.rl;have cn:don.length+Sy.mu #[Y,(O,p)::l,don]<=20001:=b5;have b6:ad.length+Sy.mu #[Y,(O,p3)::l,don]<=20001:=bN;have aC:=Sy.nxt_mu (Qq qs) (S:=#[Y,(O,p3)::l,don]) (by intro z;cases z)
    have cp:rk.length=don.length:=by
     have:=congrArg Vz hI.rks;rwa [ua,ua] at this
    have aD:H3 o.df=u_ (.dK ad):=hR.df;have aO:GoAt a.qK a.qo H3 gc ak:=hR.go;have ag:GRel gc ak p3:=hR.rel;have aY:FdOk H3 #[Y,(O,p3)::l,don] ad:=hR.fd;have aZ:SGI #[Y,(O,p3)::l,don]:=hR.gi;erw[bL,i3,aP];refine b2 _ _ ?_;exists 0,1,0;rcases hv with⟨rfl,au⟩|⟨m,rfl,au,hw,hy⟩
    ·
     refine iteB (ub rfl) ?_;exists 8,C1,c1;obtain⟨d,hd⟩:∃d,p3.en=u_ d:=by
      cases h:p3.en with
      |none=>rw [h] at au;cases au
      |some d=>exact[d:1]
     have ae:=nxt_pop (qs:=qs) (n:=O) (r:=l) (don:=don) hd;exists 0,o.x,_,o.dx,_,0,ay.e,T.qy,T.Qz,of_st o,.inl [1:_:SqL.of af];exists o.ls,_,V.ref gc.x,1,1,af,by simp
     rw [List.dropLast_concat];have aa:Kp [o.ls,o.du] H3 (upd H3 o.ls (.lst (t.reverse.map λq=>V.ref q.1.x))):=⟨λb ob h n=>by rw [qi (λz=>n (by rw [z];exact uf))];exact h,Kept.tk (p:=o.ls) (λb ob h n=>by rwa [qi n]) af qh⟩
     obtain⟨H4,aE⟩:∃H4,H4=upd H3 o.ls (.lst (t.reverse.map λq=>V.ref q.1.x)):=⟨0⟩;rw [<-aE] at aa⊢;refine c1 _ _ ?_;exists 8,C2,c2;have e4:H4 o.x=u_ (.ins a.qp o.dx (ofs o)):=by rw [aE,qi (λz=>by have:=ay.e;rw [z,af] at this;cases this)];exact ay.e
     have aF:H4 o.ls=u_ (.lst (t.reverse.map λq=>V.ref q.1.x)):=by rw [aE];exact qh
     have al:H4 o.du=u_ (.dK uk):=by rwa [aE,qi d1.symm]
     have bO:∀b,H b=U_->b≠o.ls:=λb U=>(hB.new U).2.1;have b7:GoAt a.qK a.qo H4 gc ak:=aO.frame (λb U ob h=>by rwa [aE,qi (bO b (aq b U))]) aa.tk
     erw[id b7,b8,b9,cq,cr,cs,cu,ca,f4,_];have aG:(valV uk (V9 gc.n)).isSome=true:=by
      rw [ag.n,aX];exact(hI.uo O).trans (ub uf)
     obtain⟨uv,cb⟩:∃uv,valV uk (V9 gc.n)=u_ uv:=by
      cases h:valV uk (V9 gc.n) with
      |none=>rw [h] at aG;cases aG
      |some uv=>exact[uv:1]
     exists 0,o.x,_,o.dx,_,0,e4,T.qy,T.Qx,of_uw o,o.du,1,.inl [_:.inl al],0,gc.x,_,b8,b9,0,ca,T.qR,T.Yc,f4.Zm,uk,V9 gc.n,uv,al,1,cb;have ah:Kp [o.ls,o.du] H3 (upd H4 o.du (.dK (Jd uk (V9 gc.n)))):=aa.trans (Kp.updD al (ue _ uf));obtain⟨H5,bu⟩:∃H5,H5=upd H4 o.du (.dK (Jd uk (V9 gc.n))):=⟨0⟩;rw [<-bu] at ah⊢;refine c2 _ _ ?_;have bP:H5 o.du=u_ (.dK (Jd uk (V9 gc.n))):=by rw [bu];exact qh
     have bQ:H5 o.ls=u_ (.lst (t.reverse.map λq=>V.ref q.1.x)):=by rwa [bu,qi d1]
     have aH:∀b,H b=U_->b∉ [o.ls,o.du]:=λb U z=>by
      simp only [uz,uD,uM] at z;rcases z with z|z
      ·exact(hB.new U).2.1 z
      ·exact(hB.new U).2.2.1 z
     have cc:GoAt a.qK a.qo H5 gc ak:=aO.frame (λb U ob h=>ah.kept b ob h (aH b (aq b U))) ah.tk;have bR:H5 o.dr=u_ (.dK rk):=ah.kept _ _ aB (by simp only [uz,uD,uM,V5];exact[d2.symm:d4.symm])
     have bS:H5 o.df=u_ (.dK ad):=ah.kept _ _ aD (by simp only [uz,uD,uM,V5];exact[d3.symm:d5.symm])
     have aQ:∀b,b∉LO o->b∉ [o.ls,o.du]:=λb U z=>U (by simp only [LO,uz,uD,uM] at z⊢;rcases z with z|z;exact .inl z;exact .inr (.inl z))
     have bv:Kp (LO o) H H5:=[λb ob h n=>ah.kept b ob (ap.kept b ob h n) (aQ b n):ap.tk.trans ah.tk];have bT:=hB.at bv;refine⟨0,o.x,o.dx,0,bT.e,Wy o _ (),0,o,qs,gc,ak,p3,rk,ad,1,bT,cc,ag,b4,au,bR,(),bS,(),d6,λz=>(hB.new (aq _ z)).2.2.2.1 rfl,λz=>(hB.new (aq _ z)).2.2.2.2 rfl,λv1 v2 H6 aw aI i6 ba j6=> ?_⟩
     have bU:∀b,b∉LO o->b∉ [o.dr,o.df]:=λb U z=>U (by simp only [LO,uz,uD,uM] at z⊢;rcases z with z|z;exact .inr (.inr (.inl z));exact .inr (.inr (.inr z)))
     have cd:∀b,H b=U_->b∉ [o.dr,o.df]:=λb U=>bU b (hB.nlo U);have ce:Kp (LO o) H H6:=[λb ob h n=>aw.kept b ob (bv.kept b ob h n) (bU b n):bv.tk.trans aw.tk];have aJ:Tk H3 H6:=ah.tk.trans aw.tk;have bw:gc.n=O:=ag.n.trans aX;have aR:(#[Y,(O,p3)::l,don].stk.map (·.1)++#[Y,(O,p3)::l,don].don.map (·.1)).Nodup:=by
      rw [aP];exact S0_nd n i3
     have bb:(O::(l.map (·.1)++don.map (·.1))).Nodup:=aR;have aK:O∉don.map (·.1):=λz=>(List.nodup_cons.mp bb).1 (uJ _ z);have bx:O∉l.map (·.1):=λz=>(List.nodup_cons.mp bb).1 (ve _ z);have cf:valV rk (V9 O)=none:=by
      cases h:valV rk (V9 O) with
      |none=>rfl
      |some v=>
       have h1:=valV_in h;rw [hI.rks] at h1;erw[Ab.mp h1,q,hq,e];injection e with e
       exact absurd (Ab.mpr [q:hq:e]) aK
     rw [bw] at aI ba;rw [Zy v1 cf] at aI;have bV:uk.length+Sy.mu #[Y,(O,p)::l,don]<=20001:=bM;have cv:=dropK_le uk (V9 gc.n:Key);have cg:=yS ad (V9 O:Key) v2;have a1:UkOk #[Y,l,don++ [(O,p3)]] (Jd uk (V9 gc.n)):=by
      intro m';rw [wL];by_cases c:m'=O
      ·rw [A5 (by rw [c,bw]),c]
       exact(uc bx).symm
      ·rw [A4 (by rw [bw];exact λz=>c (Uu z))]
       refine(hI.uo m').trans ?_;rw [uZ];exact⟨λz=>by rcases A8.mp z with z|z;exact absurd z c;exact z,λz=>ue _ z⟩
     have a2:(rk++ [((V9 O:Key),v1)]).map (·.1)=(don++ [(O,p3)]).map λq:Str×Gp=>(V9 q.1:Key):=by
      rw [Vc,Vc];have:=hI.rks;rw [this]
      rfl
     have a3:L2.IsL H6 ((don++ [(O,p3)]).map λq:Str×Gp=>xg q.2) ((rk++ [((V9 O:Key),v1)]).map (·.2)):=by
      rw [Vc,Vc];exact((hI.rv.mono (hR.tk.trans aJ))).append (L2.IsL.one i6)
     have a4:(don++ [(O,p3)]).length=don.length+1:=by rw [uu];rfl
     have a5:∀(m':Str) (g':Gp),g0D m' (qG qs m')=u_ g'->(∀g2:Gp,Sy.Y2 (Y:=SyP qs) (don++ [(O,p3)]) m'=u_ g2->∃v,valV (putK ad (V9 O) v2) (V9 m')=u_ v/\Is H6 (YI (g2.en.getD .non)) v)/\(Sy.Y2 (Y:=SyP qs) (don++ [(O,p3)]) m'=U_->valV (putK ad (V9 O) v2) (V9 m')=U_):=by
      intro m' g' ch;rw [XZ];by_cases c:m'=O
      ·have aL:Sy.Y2 (Y:=SyP qs) (don++ [(O,p3)]) m'=(u_ p3:om Gp):=by
        have e1:(don.find? λq=>decide (q.1=m'))=none:=List.find?_eq_none.mpr λq hq e=>aK (by rw [<-c,<-um e];exact RQ hq)
        have e2:((don++ [(O,p3)]).find? λq:Str×Gp=>decide (q.1=m'))=u_ (O,p3):=by rw [T_,e1,c];simp
        show((don++ [(O,p3)]).find? λq:Str×Gp=>decide (q.1=m')).map (·.2)=u_ p3;rw [e2]
        rfl
       refine[λg2 e2=> ?_:λz=> ?_]
       ·have e3:=aL.symm.trans e2;cases e3;rw [A5 (by rw [c])]
        exact[v2:1:j6]
       ·have e3:=aL.symm.trans z;cases e3
      ·have aL:Sy.Y2 (Y:=SyP qs) (don++ [(O,p3)]) m'=Sy.Y2 (Y:=SyP qs) don m':=by
        have e2:((don++ [(O,p3)]).find? λq:Str×Gp=>decide (q.1=m'))=don.find? λq:Str×Gp=>decide (q.1=m'):=by
         rw [T_];have:([(O,p3)].find? λq:Str×Gp=>decide (q.1=m'))=none:=by simp;exact λz=>c z.symm
         rw [this,Option.or_none]
        show((don++ [(O,p3)]).find? λq:Str×Gp=>decide (q.1=m')).map (·.2)=(don.find? λq:Str×Gp=>decide (q.1=m')).map (·.2);rw [e2]
       rw [A4 (λz=>c (Uu z))];have aM:(∀g2:Gp,Sy.Y2 (Y:=SyP qs) don m'=u_ g2->∃v,valV ad (V9 m')=u_ v/\Is H6 (YI (g2.en.getD .non)) v)/\(Sy.Y2 (Y:=SyP qs) don m'=U_->valV ad (V9 m')=U_):=(aY.mono aJ) m' g' ch;exact[λg2 e2=>aM.1 g2 (aL.symm.trans e2):λz=>aM.2 (aL.symm.trans z)]
     have a6:xI a.qK a.qo H6 o.x t l:=bq.frame (λb U ob h=>aw.kept b ob (ah.kept b ob h (aH b (ac b U))) (cd b (ac b U))) aJ;have a7:∀q∈don++ [(O,p3)],q.2.en.isSome=true:=by
      intro q hq;rcases Aa.mp hq with hq|hq
      ·exact hI.fin q hq
      ·cases A9.mp hq;exact au
     have eN:Sy.nx (Sy.S0 (SyP qs) n) (i3+1)=Sy.nxt #[Y,(O,p3)::l,don]:=by show Sy.nxt (Sy.nx _ i3)=_;rw [<-aP]
     have a8:=S0_nd (qs:=qs) n (i3+1);rw [eN] at a8;have a9:=nxt_gi hB.q aZ;have bA:OI a.qK a.qo H H6 o n (Sy.nxt #[Y,(O,p3)::l,don]) t (Jd uk (V9 gc.n)) (rk++ [(V9 O,v1)]) (putK ad (V9 O) v2):=by
      refine⟨ce,[i3+1:eN.symm],aw.kept _ _ bQ (by simp only [uz,uD,uM,V5];exact[d2:d3]),aw.kept _ _ bP (by simp only [uz,uD,uM,V5];exact[d4:d5]),?_,(),aI,?_,?_,?_,ba,?_,(),?_,ac,hI.sep.2,a9,?_,a8⟩
      ·rwa [ae]
      ·rwa [ae]
      ·rwa [ae]
      ·have e:(Sy.nxt #[Y,(O,p3)::l,don]).don.length=don.length+1:=by rwa [ae]
       omega
      ·rwa [ae]
      ·rwa [ae]
      ·rwa [ae]
     exact⟨_,Vm aC aW,_,t,_,_,_,_,0,1,bA⟩
    ·
     refine iteN (uc (λz=>by cases z)) ?_
     erw[nxt_push (qs:=qs) au hw hy,p',ci,ae];rw [ae] at aC;erw[Sy.J3 hy,y1,_,y3];have bW:=lfts_len (Y:=SyP qs) ((O,p3)::l);have aS:((O,p3)::l).length<=Sy.mu #[Y,(O,p3)::l,don]:=uI bW (V1 _ _);have cw:t.length=l.length:=hT.len;have bV:uk.length+Sy.mu #[Y,(O,p)::l,don]<=20001:=bM;refine⟨0,o.x,o.dx,0,ay.e,Wy o _ (),0,o,m,qs,_,uk,p',1,ay,hB.q,af,?_,aA,(),ci,λgn sn H4 aa aF al bB bC bD aT=> ?_⟩
     ·rw [uu,ua,vJ,vo];rw [ui] at aS;omega
     have aQ:∀b,b∉LO o->b∉ [o.ls,o.du]:=λb U z=>U (by simp only [LO,uz,uD,uM] at z⊢;rcases z with z|z;exact .inl z;exact .inr (.inl z))
     have cj:Kp (LO o) H H4:=[λb ob h n=>aa.kept b ob (ap.kept b ob h n) (aQ b n):ap.tk.trans aa.tk];have aH:∀b,H b=U_->b∉ [o.ls,o.du]:=λb U=>aQ b (hB.nlo U);have aN:∀b∈plc gn sn,H b=none:=λb U=>by
      have h3:=aT b U;cases h:H b with
      |none=>rfl
      |some ob=>
       by_cases c:b∈LO o
       ·simp only [LO,uz,uD,uM] at c;rcases c with rfl|rfl|rfl|rfl
        ·rw [af] at h3;cases h3
        ·rw [aA] at h3;cases h3
        ·rw [aB] at h3;cases h3
        ·rw [aD] at h3;cases h3
       ·rw [ap.kept b ob h c] at h3;cases h3
     exists _,Vm aC aW,[(m,p')::(O,p3)::l:don],(gn,sn)::(gc,ak)::t,putK uk (V9 m) (.bl v_),rk,ad,_,0,1;have cg:=yS uk (V9 m:Key) (.bl v_);refine⟨cj,⟨i3+1,by show _=Sy.nxt (Sy.nx _ i3);rw [<-aP,ae]⟩,?_,al,?_,(),aa.kept _ _ aB (by simp only [uz,uD,uM,V5];exact[d2.symm:d4.symm]),hI.rks,hI.rv.mono (hR.tk.trans aa.tk),?_,aa.kept _ _ aD (by simp only [uz,uD,uM,V5];exact[d3.symm:d5.symm]),?_,(),?_,?_,?_,?_,hI.fin,?_⟩
     ·rw [aF,UX,UX,Vc,Vc]
      rfl
     ·intro m';rw [XZ];by_cases c:m'=m
      ·rw [A5 (by rw [c])]
       exact(ub (by rw [c];exact uf)).symm
      ·rw [A4 (λz=>c (Uu z))];refine(hI.uo m').trans ?_;rw [uZ];exact⟨λz=>ue _ z,λz=>by rcases A8.mp z with z|z;exact absurd z c;exact z⟩
     ·show don.length+_<=_;omega
     ·exact aY.mono aa.tk
     ·exact⟨bB,bC,bD,aO.frame (λb U ob h=>aa.kept b ob h (aH b (aq b U))) aa.tk,ag,bJ,bq.frame (λb U ob h=>aa.kept b ob h (aH b (ac b U))) aa.tk⟩
     ·intro b U;rcases Aa.mp U with U|U
      ·exact aN b U
      ·rcases Aa.mp U with U|U
       ·exact aq b U
       ·exact ac b U
     ·refine[λb U z=> ?_:bt:hI.sep.2];have h3:=aT b U;rcases Aa.mp z with z|z
      ·erw[aO.there b z,ob,e];rw [e] at h3;cases h3
      ·erw[bq.there b z,ob,e];rw [e] at h3;cases h3
     ·have:=nxt_gi hB.q aZ;rwa [ae] at this
     ·have:=S0_nd (qs:=qs) n (i3+1);have e:Sy.nx (Sy.S0 (SyP qs) n) (i3+1)=⟨(m,p')::(O,p3)::l,don⟩:=by show Sy.nxt (Sy.nx _ i3)=_;rw [<-aP,ae]
      rwa [e] at this
 have u0:UkOk #[Y,[],[]] []:=λm=>by rw [kZ];rfl
 have f0:FdOk H #[Y,[],[]] []:=λm g hg=>⟨(λg' e=>by cases e),λ_=>kZ⟩
 have g0:SGI #[Y,[],[]]:=λp hp=>by rcases hp with hp|hp<;>cases hp
 refine⟨0,o.x,o.dx,0,hO.e,Wy o _ (),0,o,n,qs,#[Y,[],[]],[],[],1,hO,hB.q,g0,bh,u0,bG,f0,(),(λ_ z=>by cases z),λv H1 fk1 k1 f1 d1 l1 bX y1=> ?_⟩
 have aR:=hB.nd;simp only [LO,Uz,uz,uD,uM,V5,vV,and_true,UW] at aR;erw[aR,[n1,n2,n3],[n4,n5],n6];have aU:∀b,b≠o.df->b∉ [o.df]:=λb U z=>U (A9.mp z);have aV:Kp (LO o) H H1:=⟨λb ob h z=>k1.kept b ob h (λy=>z (by rw [A9.mp y];simp [LO])),k1.tk⟩
 have bY:=hB.at aV;have bc:=k1.kept _ _ bE (aU _ n3);have be:=k1.kept _ _ bh (aU _ n5);have bf:=k1.kept _ _ bF (aU _ n6);exists 1,0;unfold YetIs at y1;cases hg:(SyP qs).g0 n with
 |none=>
  have ey:Sy.yet #[Y,[],[]] n=u_ (u_ ((SyP qs).once n)):=by
   unfold Sy.yet;rw [A4 (by intro z;cases z),hg]
  rw [ey] at y1;erw[y1,d,i1,i2,_];have ck:d≠ .non:=by
   cases h:(SyP qs).once n with
   |none=>rw [h] at i2;intro z;rw [z] at i2;cases i2
   |some x=>rw [h] at i2;intro z;rw [z] at i2;cases i2
  refine iteN (uc (zB i1 ck)) ?_;have e0:Sy.S0 (SyP qs) n=⟨[],[]⟩:=by unfold Sy.S0;rw [hg]
  rw [e0] at bH;have l1:fk1.length<=0+1:=l1;exact bI H1 [[]:[]] [] [] [] fk1 ⟨aV,[(0):e0.symm],bc,be,u0,(by show 0+_<=_;omega),bf,1,1,(by show 0+_<=_;omega),f1,d1,(),trivial,(λb U=>by cases U),trivial,g0,(λq hq=>by cases hq),vV⟩
 |some p=>
  have ey:Sy.yet #[Y,[],[]] n=none:=by
   unfold Sy.yet;rw [A4 (by intro z;cases z),hg]
   rfl
  rw [ey] at y1;cases(show v= .non from y1)
  refine iteB (ub rfl) ?_;have e0:Sy.S0 (SyP qs) n=⟨[(n,p)],[]⟩:=by unfold Sy.S0;rw [hg]
  rw [e0] at bH;have bX:fk1.length=0:=bX ey;refine⟨0,o.x,o.dx,0,bY.e,Wy o _ (),0,o,n,qs,[],[],p,1,bY,hB.q,bc,(),be,(),hg,λgn sn H2 k2 am bZ bB bC bD aT=> ?_⟩
  have cm:Kp (LO o) H H2:=⟨λb ob h z=>k2.kept b ob (aV.kept b ob h z) (λy=>z (by simp only [LO,uz,uD,uM] at y⊢;rcases y with y|y;exact .inl y;exact .inr (.inl y))),aV.tk.trans k2.tk⟩
  have aN:∀b∈plc gn sn,H b=none:=λb U=>by
   have h3:=aT b U;cases h:H b with
   |none=>rfl
   |some ob=>
    by_cases c:b=o.df
    ·rw [c,f1] at h3;cases h3
    ·rw [k1.kept b ob h (aU b c)] at h3;cases h3
  have bg:∀b,b≠o.ls->b≠o.du->b∉ [o.ls,o.du]:=λb h1 h2 z=>by
   simp only [uz,uD,uM] at z;rcases z with z|z
   ·exact h1 z
   ·exact h2 z
  refine bI H2 [[(n,p)]:[]] [(gn,sn)] (putK [] (V9 n) (.bl v_)) [] fk1 ⟨cm,[(0):e0.symm],am,bZ,?_,?_,k2.kept _ _ bf (bg _ (Uv n2) (Uv n4)),1,1,(by show 0+_<=_;omega),k2.kept _ _ f1 (bg _ (Uv n3) (Uv n5)),d1.mono k2.tk,(),⟨bB,bC,bD,trivial⟩,?_,⟨λb U z=>(by cases z),trivial⟩,?_,(λq hq=>by cases hq),?_⟩
  ·intro m';rw [XZ];by_cases c:m'=n
   ·rw [A5 (by rw [c])]
    exact(ub (by rw [c];exact uf)).symm
   ·rw [A4 (λz=>c (Uu z)),kZ];exact(uc (λz=>c (A9.mp z))).symm
  ·have:=yS [] (V9 n:Key) (.bl v_);rw [Hc] at this;omega
  ·intro b U;rcases Aa.mp U with U|U
   ·exact aN b U
   ·cases U
  ·intro q hq;rcases hq with hq|hq
   ·cases A9.mp hq;exact Wq hB.q hg
   ·cases hq
  ·exact List.nodup_cons.mpr ⟨(λz=>by cases z),vV⟩
end
namespace Sy
variable {Y:Sy}
variable {n0:Str}
theorem yet_F (h:Y.Ok){n:Str}{g:Y.G}{r don:oj (Str×Y.G)}(hs:SOk n0 ([(n,g)::r:don]:Ss Y))(hf:Y.fin g=V7)(hw:Y.want g=u_ m){o:om (om D)}(O:yet ([(n,g)::r:don]:Ss Y) m=u_ o):F Y m=o:=by
 erw[hs,[[s,k,U,hk],c2,c3],nd,aa,bot];unfold yet at O;by_cases c:m∈((n,g)::r).map (·.1)
 ·rw [A5 c] at O;cases O;have w:Wt Y n m:=⟨s,k,U,by rwa [<-hk],by rwa [<-hk]⟩
  rcases A8.mp c with rfl|hm
  ·exact Xr h (.one w)
  ·exact Xr h (.more (chn_wts (g:=g) [⟨s,k,U,hk⟩:c2:c3] hm) w)
 ·rw [A4 c] at O;cases hg:Y.g0 m with
  |none=>
   rw [hg] at O;cases O;exact F_once h hg
  |some gm=>
   rw [hg] at O;simp only at O;cases hd:Y2 don m with
   |none=>rw [hd] at O;cases O
   |some gd=>
    rw [hd] at O;cases O;erw[aa _ (zT hd),s',e1,e2];rw [hg] at e1;cases e1;have e3:gd=it Y (F Y) Y.M gm:=e2;rw [F_run h hg,e3]
noncomputable def jE (S:Ss Y):oj Str:=S.stk.map (·.1)++S.don.map (·.1)
end Sy
section
variable {qs qs':oj (Str×D)}
noncomputable abbrev FP (qs:oj (Str×D)):Sy.Orc:=Sy.F (SyP qs)
noncomputable abbrev itP (qs:oj (Str×D)) (k:Nat) (g:Gp):Gp:=Sy.it (SyP qs) (FP qs) k g
theorem step_eq (g:Gp):Sy.step (SyP qs) (FP qs) g=if g.en.isSome=v_ then g else match ya g with
  |none=>ownP qs g
  |some m=>match FP qs m with
   |some a=>yc g (a.getD .non)
   |none=>stkP g m:=rfl
noncomputable def QJ (p:Gp):oj D:=p.ra++runPG' p.run
where runPG':om (oj Rw×Rn)->oj D
 |none=> []
 |some (_,r)=>r.gs
noncomputable def GA (g:Gp):Prop:=g.run=U_->g.en=U_->g.ra= []
theorem runS_gs {rs:oj Rw}{own:Str}{gs:oj D}:∀(f:Nat) (B:Str->D) (p:Int) (n:Nat),(runS rs own gs f B p n).gs=gs
 |0,B,p,n=>rfl
 |f+1,B,p,n=>by
  unfold runS;by_cases c:p>rs.length
  ·rw [A5 c]
  ·rw [A4 c];cases U:rowO own (jZ rs p) B p with
   |go O p'=>exact runS_gs f O p' (n+1)
   |stop e=>rfl
theorem ansS_gs {r:Rn}{a:D}:(ansS rs own r a).gs=r.gs++ [.tup [zc r.th,a]]:=by
 unfold ansS;split
 ·rfl
 ·exact runS_gs _ _ _ _
theorem asks_beg (h:g.run=U_)(d:D):QJ (begP g d)=g.ra/\GA (begP g d):=by
 unfold begP;split
 ·refine⟨?_,λ_ z=>by cases z⟩
  show g.ra++QJ.runPG' g.run=g.ra;rw [h];exact uW _
 ·cases hd:Q1 d with
  |none=>
   refine⟨?_,λ_ z=>by cases z⟩
   show g.ra++QJ.runPG' g.run=g.ra;rw [h];exact uW _
  |some rs=>
   refine⟨?_,λz=>by cases z⟩
   show g.ra++(R0 rs g.n).gs=g.ra;rw [show(R0 rs g.n).gs= [] from runS_gs _ _ _ _]
   exact uW _
theorem JJ (ha:GA g)(he:g.en=U_)(d:D):QJ (yc g d)=QJ g++ [.tup [yR g,d]]/\GA (yc g d):=by
 unfold yc;cases O:g.run with
 |none=>
  have U:=ha O he;erw[asks_beg (g:=⟨g.n,g.mb,[.tup [.tup [.str "rule",g.mb],d]],U_,g.en⟩) rfl d,h1,h2];refine[h1.trans ?_:h2];have e1:QJ g= []:=by unfold QJ;rw [U,O];rfl
  have e2:yR g= .tup [.str "rule",g.mb]:=by unfold yR;rw [O]
  rw [e1,e2]
  rfl
 |some p=>
  erw[p,rs,r];refine⟨?_,λz=>by cases z⟩
  show g.ra++(ansS rs g.n r d).gs=QJ g++_;have e2:yR g=zc r.th:=by unfold yR;rw [O]
  have e3:QJ g=g.ra++r.gs:=by unfold QJ;rw [O];rfl
  rw [ansS_gs,e2,e3,Ud]
theorem ga_g0 {d:D}(h:g0D m d=u_ g):GA g/\QJ g= []:=by
 unfold g0D at h;split at h
 ·split at h
  ·cases h
  ·split at h
   ·cases h;exact[λ_ _=>rfl:1]
   ·cases h;erw[asks_beg (g:=⟨m,.non,[],U_,U_⟩) rfl _,h1,h2];exact[h2:h1]
 ·cases h
theorem once_ok (U:Q0 qs)(O:g0D m (qG qs m)=U_):j8 ((onceD (qG qs m)).getD .non):=by
 by_cases hm:m∈qs.map (·.1)
 ·erw[Xz U hm,hn,k,e,hd,h1,h2];rw [hd] at O⊢;unfold g0D at O;simp only at O;by_cases c:k="leaf"
  ·exact .inr (h2 (by rw [c];decide+kernel)).2
  ·rw [A4 c] at O;split at O<;>cases O
 ·rw [YY hm];exact .inl rfl
theorem kQ (hq:Q0 qs){f:Sy.Orc}(hf:∀m a,f m=u_ a->j8 (a.getD .non))(h:GI g)(ha:GA g):GI (Sy.step (SyP qs) f g)/\GA (Sy.step (SyP qs) f g):=by
 have e:Sy.step (SyP qs) f g=if g.en.isSome=v_ then g else match ya g with
  |none=>ownP qs g
  |some m=>match f m with
   |some a=>yc g (a.getD .non)
   |none=>stkP g m:=rfl
 rw [e];cases O:g.en with
 |some d=>exact[h:ha]
 |none=>
  simp only [UN,A4 u9];cases U:ya g with
  |none=>
   erw[Xv (qs:=qs) h O U,rs,r,k,z,_,_,hk,_,e];exists gi_own hq h O U;show GA (ownP qs g);rw [e];exact(JJ ha O _).2
  |some m=>
   simp only;cases hm:f m with
   |some a=>exact[kO h O (hf m a hm):(JJ ha O _).2]
   |none=>exact⟨gi_stk h m,λ_ z=>by cases z⟩
theorem it_gi (O:Q0 qs){f:Sy.Orc}(U:∀m a,f m=u_ a->j8 (a.getD .non)):∀(k:Nat) {g:Gp},GI g->GA g->GI (Sy.it (SyP qs) f k g)/\GA (Sy.it (SyP qs) f k g)
 |0,g,h,ha=>[h:ha]
 |k+1,g,h,ha=>it_gi O U k (kQ O U h ha).1 (kQ O U h ha).2
theorem Fh_ok (U:Q0 qs):∀(k:Nat) (m:Str) (a:om D),Sy.Fh (SyP qs) k m=u_ a->j8 (a.getD .non)
 |0,m,a,h=>by
  cases O:(SyP qs).g0 m with
  |none=>rw [Sy.xT O] at h;cases h;exact once_ok U O
  |some g=>rw [Sy.Z4 O] at h;cases h
 |k+1,m,a,h=>by
  cases O:(SyP qs).g0 m with
  |none=>rw [Sy.xT O] at h;cases h;exact once_ok U O
  |some g=>
   rw [Sy.WA O] at h;have aa:=it_gi U (Fh_ok U k) 302 (Wq U O).1 (ga_g0 O).1;cases hs:(SyP qs).said (Sy.it (SyP qs) (Sy.Fh (SyP qs) k) (SyP qs).M g) with
   |none=>rw [hs] at h;cases h
   |some v=>
    rw [hs] at h;cases h;exact .inr (said_ok aa.1 hs)
theorem F_ok (O:Q0 qs)(m:Str)(a:om D)(h:FP qs m=u_ a):j8 (a.getD .non):=by
 erw[(Sy.F_iff (Qq qs)).mp h,k,h];exact Fh_ok O k m a h
theorem itP_gi (O:Q0 qs)(U:g0D m (qG qs m)=u_ g)(k:Nat):GI (itP qs k g)/\GA (itP qs k g):=it_gi O (F_ok O) k (Wq O U).1 (ga_g0 U).1
end
noncomputable def Dn (qs:oj (Str×D))(n:Str)(don:oj (Str×Gp)):Prop:=∃j,Sy.nx (Sy.S0 (SyP qs) n) j=[[]:don]
section
variable {qs:oj (Str×D)}{n:Str}{don don':oj (Str×Gp)}
theorem dn_one (h:Dn qs n don)(k:Dn qs n don'):don=don':=by
 erw[h,i,hi];erw[k,j,O];have e:=Sy.nx_one (S:=Sy.S0 (SyP qs) n) (k:=i) (j:=j) (by rw [hi]) (by rw [O])
 rw [hi,O] at e;exact congrArg Sy.Ss.don e
theorem dn_none (O:g0D n (qG qs n)=U_)(h:Dn qs n don):don= []:=by
 have U:Sy.S0 (SyP qs) n=⟨[],[]⟩:=by unfold Sy.S0;rw [show(SyP qs).g0 n=U_ from O]
 exact dn_one h [(0):U]
theorem dn_ok (O:g0D n (qG qs n)=u_ g)(h:Dn qs n don):Sy.SOk (Y:=SyP qs) n [[]:don]:=by
 erw[h,j,U];rw [<-U];exact Sy.nx_ok (Qq qs) (Sy.S0_ok O) j
theorem dn_mem (h:Dn qs n don){p:Str×Gp}(O:p∈don):∃s,g0D p.1 (qG qs p.1)=u_ s/\p.2=Sy.it (SyP qs) (Sy.F (SyP qs)) 302 s:=by
 cases U:g0D n (qG qs n) with
 |none=>rw [dn_none U h] at O;cases O
 |some g=>exact(dn_ok U h).don p O
end
noncomputable def asksP (p:Gp):D:= .tup (p.ra++runPG p.run)
noncomputable def endP (p:Gp):D:=p.en.getD .non
theorem fullP_eq (p:Gp):xg p= .tup [asksP p,endP p]:=rfl
end K23
namespace K23
open PySem L2 PyProof.Rows
structure OrdF (CO CP:o3)(H0 H:Hp)(qs:oj (Str×D))(n:Str)(o:Oc)(rk uk fk:oj (Key×V))(don:oj (Str×Gp)):Prop where
 sm:Same H0 H
 oa:OAt CO CP H o qs
 dr:H o.dr=u_ (.dK rk)
 ks:rk.map (·.1)=don.map λp=>V9 p.1
 vs:L2.IsL H (don.map λp=>xg p.2) (rk.map (·.2))
 du:H o.du=u_ (.dK uk)
 uo:UkOk #[Y,[],don] uk
 df:H o.df=u_ (.dK fk)
 fd:FdOk H #[Y,[],don] fk
 fl:fk.length<=20101
 dn:Dn qs n don
 sg:SGI #[Y,[],don]
 gi:∀p∈don,GI p.2/\p.2.en.isSome=v_
 len:don.length<=20001
 new:H0 o.x=U_/\H0 o.dr=U_/\H0 o.du=U_/\H0 o.df=U_
 ne:o.dr≠o.df/\o.du≠o.df
inductive sp_chk (vs:List V) (H:Hp) (Q:VK) (E_:XK):Prop
 |mk (z:_) (_:vs= [.str z]) (_:nm z=v_) (_:∀H',Same H H'->Q .non H')
inductive sp_chks (vs:List V) (H:Hp) (Q:VK) (E_:XK):Prop
 |mk (t:_) (z:_) (_:vs= [.ref t]) (_:H t=u_ (.tup [.str z])) (_:nm z=v_) (_:∀H',Same H H'->Q .non H')
inductive sp_over (CO CP:Addr) (vs:List V) (H:Hp) (Q:VK) (E_:XK):Prop
 |mk (px t:Addr) (n:Str) (qs:List (Str×D)) (_:vs= [.ref px,.ref t]) (_:H t=u_ (.tup [.str n])) (_:nm n=v_) (_:jg CP H px qs) (_:Q0 qs) (_:∀H' o rk uk fk don,o.px=px->OrdF CO CP H H' qs n o rk uk fk don->fk.length<=20001->Q (.ref o.x) H')
inductive sp_from (CO CP:Addr) (vs:List V) (H:Hp) (Q:VK) (E_:XK):Prop
 |mk (px:Addr) (n:Str) (qs:List (Str×D)) (_:vs= [.ref px,.str n]) (_:nm n=v_) (_:jg CP H px qs) (_:Q0 qs) (_:∀H' o rk uk fk don,o.px=px->OrdF CO CP H H' qs n o rk uk fk don->fk.length<=20001->Q (.ref o.x) H')
section
variable {P:o9}{w:og}{K:o0}{mg:Str->om o6}{base:o8}{a:Ad}{g:Ga}
theorem ok_chk (T:Tx K mg a):#[K,2,a.zV,a.Zf,["name"],sp_chk]:=by
 have U:=#[zf,T];exists 9,T.g_check_name,k8
 erw[h,z,rfl,O,k];have hl:=kL O;exists _,%[|#[qI,#[Qy,#[Qj,#[qw,U,T.g_is_name,#v[pv 0]]]],%[|js],qv]]
 exists 7
 refine⟨0,.str z,.str z,1,yU (),λH1 s1=>[0:?_]⟩
 have e:isNm (.str z)=true:=O;rw [e];exact iteF (k H1 s1)
theorem ok_chks (T:Tx K mg a):#[K,3,a.X3,a.XN,["names"],sp_chks]:=by
 have O:=#[ok_chk,T];exists 9,T.g_check_names,xm
 erw[h,t,z,rfl,ht,hz,k];exists _,%[|#[YV,#[pi_tup,4,pv 0],#[qT,(1),xm.nd],%[|#[qV,#[qw,O,T.g_check_name,#v[pv 1]]]]]]
 exists 7
 exists 0,t,1,[_:SqT.of ht];refine kS (xs:= [.str z]) (λi σ H'=>(∃u,σ= [u_ (.ref t),u])/\Same H H') [⟨0⟩:Same.refl _] (λi σ H' _ h=>SqT.of (h.2 _ _ ht)) ?_ ?_
 ·rintro i x σ H' hx ⟨⟨u,rfl⟩,s1⟩;have U:x= .str z:=by
   cases i with
   |zero=>exact(uF hx).symm
   |succ i=>cases hx
  subst U;exact⟨0,z,1,hz,λH2 s2=>[⟨0⟩:s1.trans s2]⟩
 ·rintro σ H' ⟨_,s1⟩;exact k H' s1
theorem ok_over (T:Tx K mg a)(C:Fx K w mg g a):#[K,14,a.zS,a.zX,["project","names"],(sp_over a.qp a.qO)]:=by
 have Ky:=#[ok_chks,T];have zJ:=#[ok_oinit,T];have jB:=#[ok_thru,T,C];exists 9,T.g_order_over,jF
 erw[h,px,t,n,qs,rfl,ht,hn,hP,hq,k1];exists _,%[#[qV,#[qw,Ky,T.g_check_names,#v[pv 1]]],#[qC,(2),jF.nd,#[ZS,T.M_PlainOrder,zJ,T.m_PlainOrder,T.g_PlainOrder_init,qB,#v[pv 0]]],#[YV,#[pi_tup,4,pv 1],#[qT,(3),jF.nd],%[|#[qV,#[Qv,pv 2,T.qy,T.g_PlainOrder_go_through,jB,#v[pv 3]]]]]|#[qt,pv 2]]
 exists 7
 exists 8,N1,q1;refine⟨0,t,n,1,ht,hn,λH1 s1=>q1 _ _ ?_⟩;exists 8,N2,q2;refine[0:λx dx hx au nx=> ?_];have s0:Same H1 (upd (upd H1 dx (.own x)) x (.ins a.qp dx [])):=λb o h=>by rwa [qi (qk h hx),qi (qk h au)]
 refine⟨x,dx,px,1,qh,λo H2 eo aw ax kp tk f1 f2 f3 f4 nd ad ae af ag ah=>[1:q2 _ _ ?_]⟩;exists 8,N3,q3;have ay:Same H1 H2:=λb ob h=>kp b ob (s0 b ob h) (qk h hx);have O:=s1.trans ay;have ak:=O _ _ ht;subst eo aw ax;have hB:Bs a.qp a.qO H2 o qs:=⟨[ad:hP.same O],[_:ae],[_:af],[_:ag],[_:ah],nd,hq⟩;exists 0,t,1,[_:SqT.of ak];have fr:∀b,upd (upd H1 o.dx (.own o.x)) o.x (.ins a.qp o.dx []) b=U_->H b=none:=λb U=>by
  cases e:H b with
  |none=>rfl
  |some ob=>rw [s0 b ob (s1 b ob e)] at U;cases U
 let J_:Nat->L2.St->Hp->Prop:=λi σ H'=>(∃u,σ= [u_ (.ref o.px),u_ (.ref t),u_ (.ref o.x),u])/\((i=0/\H'=H2)∨(i=1/\∃rk uk fk don,OrdF a.qp a.qO H H' qs n o rk uk fk don/\fk.length<=20001))
 refine kS (xs:= [.str n]) J_ [⟨0⟩:.inl [1:1]] (λi σ H' _ h=> ?_) ?_ ?_
 ·rcases h.2 with⟨_,rfl⟩|⟨_,rk,uk,fk,don,h,_⟩
  ·exact SqT.of ak
  ·exact SqT.of (h.sm _ _ ht)
 ·rintro i x' σ H' al ⟨⟨u,rfl⟩,h⟩;have aa:x'= .str n/\i=0:=by
   cases i with
   |zero=>exact[(uF al).symm:1]
   |succ i=>cases al
  erw[aa,rfl,rfl];rcases h with⟨_,rfl⟩|⟨z,_⟩
  ·refine⟨0,o.x,o.dx,0,ad,Wy o _ (),0,o,qs,n,1,hB,ae,af,ag,ah,λH3 rk uk fk don j am aA ao aB aC aD k3 aE ap aF aG aH aq=> ?_⟩
   have out:∀b,H b≠U_->b∉LO o:=λb U z=>by
    simp only [LO,uz,uD,uM] at z;rcases z with rfl|rfl|rfl|rfl
    ·exact U (fr _ f1)
    ·exact U (fr _ f2)
    ·exact U (fr _ f3)
    ·exact U (fr _ f4)
   have ac:=nd;simp only [Uz,uz,uD,uM,V5,vV,and_true,UW] at ac;have aa:H o.x=none:=by
    cases e:H o.x with
    |none=>rfl
    |some ob=>rw [s1 _ _ e] at hx;cases hx
   exact⟨⟨0⟩,.inr ⟨1,rk,uk,fk,don,⟨λb ob e=>k3.kept b ob (O b ob e) (out b (by rw [e];intro z;cases z)),hB.at k3,ap,aF,aG,am,aA,ao,aB,(),[j:aE],aD,aH,aq,⟨aa,fr _ f3,fr _ f2,fr _ f4⟩,[ac.2.2:ac.2.1.2]⟩,aC⟩⟩
  ·cases z
 ·rintro σ H' ⟨⟨u,rfl⟩,h⟩;rcases h with⟨z,_⟩|⟨_,rk,uk,fk,don,h,hl⟩
  ·cases z
  ·exact q3 _ _ [0:k1 H' o rk uk fk don rfl h hl]
theorem ok_from (T:Tx K mg a)(C:Fx K w mg g a):#[K,15,a.Zn,a.Zd,["project","name"],(sp_from a.qp a.qO)]:=by
 have O:=#[ok_over,T,C];exists 9,T.g_order_from,Ks,U
 erw[h,px,n,qs,rfl,hn,hP,hq,k1];have hs:=uB;exists _,%[|#[qt,#[qw,16,O,U.mono (),_,T.g_order_over.m,T.g_order_over.F.kp,T.g_order_over.b,.nil,qB,#v[pv 0,#[qE,#v[pv 1]]],_,_,_]]]
 exists 7
 refine⟨0,0,(sml rfl),λt ht=> ?_⟩;have s1:=qg ht (.tup [V.str n]);exact⟨px,t,n,qs,1,qh,hn,hP.same s1,hq,λH' o rk uk fk don e h hl=>k1 H' o rk uk fk don e ⟨s1.trans h.sm,h.oa,h.dr,h.ks,h.vs,h.du,h.uo,h.df,h.fd,h.fl,h.dn,h.sg,h.gi,h.len,⟨s1.free h.new.1,s1.free h.new.2.1,s1.free h.new.2.2.1,s1.free h.new.2.2.2⟩,h.ne⟩ hl⟩
end
noncomputable def jd (H:Hp)(d:o3)(ps:oj (Str×D)):Prop:=∃vs:oj (Str×V),H d=u_ (.dK (inrK vs))/\vs.map (·.1)=ps.map (·.1)/\L2.IsL H (ps.map (·.2)) (vs.map (·.2))
variable {H H':Hp}{ps:oj (Str×D)}
theorem jd.same {d:o3}(h:jd H d ps)(s:Same H H'):jd H' d ps:=by
 erw[h,vs,h1,h2,h3];exact⟨vs,s _ _ h1,h2,h3.mono s.tk⟩
noncomputable def setP {β:Type}(ps:oj (Str×β))(z:Str)(e:β):oj (Str×β):=ps.map λp=>if p.1=z then(p.1,e) else p
noncomputable def putP {β:Type}(ps:oj (Str×β))(z:Str)(e:β):oj (Str×β):=if z∈ps.map (·.1) then setP ps z e else ps++ [(z,e)]
theorem put_inr (vs:oj (Str×V))(z:Str)(v:V):putK (inrK vs) (V9 z) v=inrK (putP vs z v):=by
 unfold putP;by_cases c:z∈vs.map (·.1)
 ·rw [A5 c];unfold putK;rw [A5]
  ·unfold inrK setP;rw [uK,uK];refine Uh λp _=> ?_;by_cases h:p.1=z
   ·simp [h]
   ·simp [h]
  ·unfold inrK;rw [Hg,Tf];erw[Ab.mp c,p,O,e];exact⟨p,O,by simp [e]⟩
 ·rw [A4 c,Zy _ (kP c)];unfold inrK;rw [Vc]
  rfl
theorem set_tbl {H:Hp}{z:Str}{O:D}{u:V}(U:Is H O u):∀{ps:oj (Str×D)}{vs:oj (Str×V)},vs.map (·.1)=ps.map (·.1)->L2.IsL H (ps.map (·.2)) (vs.map (·.2))->(setP vs z u).map (·.1)=(setP ps z O).map (·.1)/\L2.IsL H ((setP ps z O).map (·.2)) ((setP vs z u).map (·.2))
 | [],[],_,_=>[1:1]
 | [],_::_,e,_=>by simp at e
 |_::_,[],e,_=>by simp at e
 |p::ps,v::vs,e,h=>by
  simp only [uq,Ue] at e;erw[h,u',r,e2,h1,h2];simp only [uq,Ue] at e2;erw[e2,rfl,rfl];erw[set_tbl (z:=z) U e.2 h2,i1,i2];rw [show setP (p::ps) z O=(if p.1=z then(p.1,O) else p)::setP ps z O from rfl,show setP (v::vs) z u=(if v.1=z then(v.1,u) else v)::setP vs z u from rfl]
  by_cases c:p.1=z
  ·rw [A5 c,A5 (e.1.trans c)];refine[?_:⟨_,0,U,i2⟩];rw [uq,uq,i1];exact congrArg (·::_) e.1
  ·rw [A4 c,A4 (λq=>c (e.1.symm.trans q))];refine[?_:⟨_,0,h1,i2⟩];rw [uq,uq,i1];exact congrArg (·::_) e.1
variable {z:Str}{e:D}
theorem put_tbl {u:V}(U:Is H e u){vs:oj (Str×V)}(O:vs.map (·.1)=ps.map (·.1))(hv:L2.IsL H (ps.map (·.2)) (vs.map (·.2))):(putP vs z u).map (·.1)=(putP ps z e).map (·.1)/\L2.IsL H ((putP ps z e).map (·.2)) ((putP vs z u).map (·.2)):=by
 unfold putP;by_cases c:z∈ps.map (·.1)
 ·rw [A5 c,A5 (by rw [O];exact c)]
  exact set_tbl U O hv
 ·rw [A4 c,A4 (by rw [O];exact c)]
  refine⟨by rw [Vc,Vc,O];rfl,?_⟩
  rw [Vc,Vc];exact hv.append (L2.IsL.one U)
theorem jd.up {d:o3}{vs ws:oj (Str×V)}(hd:H d=u_ (.dK (inrK vs)))(h1:ws.map (·.1)=ps.map (·.1))(h2:L2.IsL H (ps.map (·.2)) (ws.map (·.2))):jd (upd H d (.dK (inrK ws))) d ps:=
 ⟨ws,qh,h1,h2.mono (Tk.updD hd)⟩
theorem Ko {β:Type}(z:Str)(e:β):∀ps:oj (Str×β),(setP ps z e).map (·.1)=ps.map (·.1)
 | []=>rfl
 |p::r=>by
  rw [show setP (p::r) z e=(if p.1=z then(p.1,e) else p)::setP r z e from rfl,uq,uq,Ko z e r]
  split<;>rfl
variable {x:Str}
theorem xw {β:Type}{ps:oj (Str×β)}{e:β}:x∈(putP ps z e).map (·.1)↔x=z∨x∈ps.map (·.1):=by
 unfold putP;by_cases c:z∈ps.map (·.1)
 ·rw [A5 c,Ko];exact⟨.inr,λh=>h.elim (λe=>by rw [e];exact c) id⟩
 ·rw [A4 c,Vc,vM];exact[λh=>h.elim .inr (λh=> .inl (A9.mp h)):λh=>h.elim (λe=> .inr (A9.mpr e)) .inl]
theorem dat_set (z y:Str)(e:D):∀ps:oj (Str×D),y∈ps.map (·.1)->qG (setP ps z e) y=if y=z then e else qG ps y
 | [],h=>by cases h
 |p::r,h=>by
  show qG ((if p.1=z then(p.1,e) else p)::setP r z e) y=_
  by_cases c:p.1=y
  ·have O:∀q:Str×D,q.1=y->∀l,qG (q::l) y=q.2:=λq U l=>by simp [qG,vb,U]
   rw [O p c];by_cases d:p.1=z
   ·rw [A5 d,O (p.1,e) c,A5 (c.symm.trans d)]
   ·rw [A4 d,O _ c,A4 (λw=>d (c.trans w))]
  ·have O:∀q:Str×D,q.1≠y->∀l,qG (q::l) y=qG l y:=λq U l=>by simp [qG,vb,U]
   have hk:(if p.1=z then(p.1,e) else p).1=p.1:=by split<;>rfl
   rw [O p c,O _ (by rw [hk];exact c)]
   refine dat_set z y e r ?_;rcases A8.mp h with h|h
   ·exact absurd h.symm c
   ·exact h
theorem Kt (ps:oj (Str×D))(z y:Str)(e:D)(h:y=z∨y∈ps.map (·.1)):qG (putP ps z e) y=if y=z then e else qG ps y:=by
 unfold putP;by_cases c:z∈ps.map (·.1)
 ·rw [A5 c];exact dat_set z y e ps (h.elim (λw=>by rw [w];exact c) id)
 ·rw [A4 c];have O:∀l:oj (Str×D),z∉l.map (·.1)->qG (l++ [(z,e)]) y=if y=z then e else qG l y:=by
   intro l
   induction l with
   |nil=>
    intro _;by_cases d:y=z
    ·simp [qG,d]
    ·simp [qG,d,Uv d]
   |cons p r U=>
    intro hz;have h1:p.1≠z:=λw=>hz (Ab.mpr [p:uf:w]);have U:=U λw=>hz (ue _ w);by_cases d:p.1=y
    ·have d2:y≠z:=λw=>h1 (d.trans w);rw [A4 d2];simp [qG,d]
    ·have e1:∀l,qG (p::l) y=qG l y:=λl=>by simp [qG,vb,d]
     rwa [vT,e1,e1]
  exact O ps c
noncomputable def orcV (qs va:oj (Str×D)):Sy.Orc:=λm=>if m∈qs.map (·.1) then(if m∈va.map (·.1) then u_ (u_ (qG va m)) else U_) else u_ U_
structure VOk (qs va:oj (Str×D)):Prop where
 sub:∀m∈va.map (·.1),m∈qs.map (·.1)/\Sy.F (SyP qs) m=u_ (u_ (qG va m))/\isT (qG va m)=v_
noncomputable def VLf (qs va:oj (Str×D))(l:oj Str):Prop:=∀m∈l,g0D m (qG qs m)=U_->m∈va.map (·.1)
section
variable {qs va:oj (Str×D)}
variable {m:Str}
theorem lack_F (h:m∉qs.map (·.1)):(SyP qs).g0 m=U_/\(SyP qs).once m=none:=by
 refine[?_:?_]
 ·show g0D m (qG qs m)=U_;rw [YY h]
  rfl
 ·show onceD (qG qs m)=U_;rw [YY h]
  rfl
theorem orc_le (h:VOk qs va):∀m a,orcV qs va m=u_ a->Sy.F (SyP qs) m=u_ a:=by
 intro m a e;unfold orcV at e;by_cases c:m∈qs.map (·.1)
 ·rw [A5 c] at e;by_cases d:m∈va.map (·.1)
  ·rw [A5 d] at e;rw [<-e];exact(h.sub m d).2.1
  ·rw [A4 d] at e;cases e
 ·rw [A4 c] at e;erw[lack_F c,h1,h2];rw [Sy.F_once (Qq qs) h1,h2];exact e
theorem orc_ok (h:VOk qs va):∀m a,orcV qs va m=u_ a->j8 (a.getD .non):=by
 intro m a e;unfold orcV at e;by_cases c:m∈qs.map (·.1)
 ·rw [A5 c] at e;by_cases d:m∈va.map (·.1)
  ·rw [A5 d] at e;cases e;exact .inr (h.sub m d).2.2
  ·rw [A4 d] at e;cases e
 ·rw [A4 c] at e;cases e;exact .inl rfl
theorem orc_once (h:VOk qs va)(U:VLf qs va (qs.map (·.1)))(O:(SyP qs).g0 m=U_):orcV qs va m=u_ ((SyP qs).once m):=by
 unfold orcV;by_cases c:m∈qs.map (·.1)
 ·have d:=U m c O;have e:=(h.sub m d).2.1;rw [Sy.F_once (Qq qs) O] at e;rw [A5 c,A5 d];exact e.symm
 ·rw [A4 c,(lack_F c).2]
theorem orc_all (h:VOk qs va)(U:VLf qs va (qs.map (·.1)))(hc:∀m∈qs.map (·.1),m∉va.map (·.1)->∀g,g0D m (qG qs m)=u_ g->jv (Sy.it (SyP qs) (orcV qs va) 302 g)=U_):∀(k:Nat) (m:Str) (a:om D),Sy.Fh (SyP qs) k m=u_ a->orcV qs va m=u_ a
 |0,m,a,e=>by
  cases O:(SyP qs).g0 m with
  |none=>rw [Sy.xT O] at e;rw [orc_once h U O];exact e
  |some g=>rw [Sy.Z4 O] at e;cases e
 |k+1,m,a,e=>by
  cases O:(SyP qs).g0 m with
  |none=>rw [Sy.xT O] at e;rw [orc_once h U O];exact e
  |some g=>
   have hF:=Sy.F_of (Qq qs) e;rw [Sy.WA O] at e;cases hs:(SyP qs).said (Sy.it (SyP qs) (Sy.Fh (SyP qs) k) (SyP qs).M g) with
   |none=>rw [hs] at e;cases e
   |some v=>
    have e2:=Sy.Wf (Qq qs) (orc_all h U hc k) hs;have hm:m∈qs.map (·.1):=(Qq qs).gn m g O;have d:m∈va.map (·.1):=RP λd=>by
     have e3:(SyP qs).said (Sy.it (SyP qs) (orcV qs va) (SyP qs).M g)=none:=hc m hm d g O;rw [e2,hs] at e3;cases e3
    have e4:=(h.sub m d).2.1;unfold orcV;rw [A5 hm,A5 d,<-e4];exact hF
theorem orc_eq (h:VOk qs va)(U:VLf qs va (qs.map (·.1)))(hc:∀m∈qs.map (·.1),m∉va.map (·.1)->∀g,g0D m (qG qs m)=u_ g->jv (Sy.it (SyP qs) (orcV qs va) 302 g)=U_):orcV qs va=Sy.F (SyP qs):=by
 funext m
 cases O:Sy.F (SyP qs) m with
 |some a=>
  erw[(Sy.F_iff (Qq qs)).mp O,k,e];exact orc_all h U hc k m a e
 |none=>
  cases ho:orcV qs va m with
  |none=>rfl
  |some a=>rw [orc_le h m a ho] at O;cases O
theorem VOk.put (h:VOk qs va){v:D}(hm:m∈qs.map (·.1))(U:Sy.F (SyP qs) m=u_ (u_ v))(hv:isT v=v_):VOk qs (putP va m v):=⟨λx O=>by
 rw [Kt va m x v (xw.mp O)];by_cases c:x=m
 ·rw [A5 c,c];exact[hm:U:hv]
 ·rw [A4 c];exact h.sub x ((xw.mp O).resolve_left c)⟩
variable {l:oj Str}
theorem VLf.put (h:VLf qs va l)(m:Str)(v:D):VLf qs (putP va m v) l:=λx O U=>xw.mpr (.inr (h x O U))
variable {g:Gp}
theorem step_gi0 (U:Q0 qs){f:Sy.Orc}(hf:∀m a,f m=u_ a->j8 (a.getD .non))(h:GI g):GI (Sy.step (SyP qs) f g):=by
 have e:Sy.step (SyP qs) f g=if g.en.isSome=v_ then g else match ya g with
  |none=>ownP qs g
  |some m=>match f m with
   |some a=>yc g (a.getD .non)
   |none=>stkP g m:=rfl
 rw [e];cases O:g.en with
 |some d=>exact h
 |none=>
  rw [A4 (by intro z;cases z)]
  cases hw:ya g with
  |none=>exact gi_own U h O hw
  |some m=>
   show GI (match f m with|some a=>yc g (a.getD .non)|none=>stkP g m)
   cases hm:f m with
   |some a=>exact kO h O (hf m a hm)
   |none=>exact gi_stk h m
theorem it_gi0 (O:Q0 qs){f:Sy.Orc}(U:∀m a,f m=u_ a->j8 (a.getD .non)):∀(k:Nat) {g:Gp},GI g->GI (Sy.it (SyP qs) f k g)
 |0,_,h=>h
 |k+1,_,h=>it_gi0 O U k (step_gi0 O U h)
theorem said_F (U:Q0 qs)(h:VOk qs va){v:D}(hg:g0D m (qG qs m)=u_ g)(hs:jv (Sy.it (SyP qs) (orcV qs va) 302 g)=u_ v):Sy.F (SyP qs) m=u_ (u_ v)/\isT v=true:=by
 have O:(SyP qs).said (Sy.it (SyP qs) (orcV qs va) 302 g)=u_ v:=hs;have e:=Sy.Wf (Qq qs) (orc_le h) O;refine[?_:said_ok (it_gi0 U (orc_ok h) 302 (Wq U hg).1) hs];rw [Sy.F_run (Qq qs) hg];show((SyP qs).said (Sy.it (SyP qs) (Sy.F (SyP qs)) 302 g)).map u_=_;rw [e,O]
 rfl
end
variable {l:oj Str}
theorem row_tr (h:∀z∈l,nm z=v_/\z.length<=4):isT (rowT l)=decide (l.length<=40):=by
 have O:∀l:oj Str,(∀z∈l,nm z=v_/\z.length<=4)->goodL (l.map D.str)=v_/\szL (l.map D.str)<=5*l.length/\dpL (l.map D.str)<=1:=by
  intro l
  induction l with
  |nil=>exact λ_=>⟨1,uh _,by simp [dpL]⟩
  |cons z r U=>
   intro h;obtain⟨i1,i2,i3⟩:=U λy hy=>h y (ue _ hy);erw[h z uf,h1,h2];have g1:Qp z=true:=by unfold Qp;rw [ub (show z.length<=300 by omega)];exact nm_all h1
   refine⟨by simp only [uq,goodL,good,g1,i1,tH],by simp only [uq,szL,sz,ui];omega,by simp only [uq,dpL,dp];omega⟩
 erw[O l h,h1,h2,h3];unfold isT rowT;by_cases c:l.length<=40
 ·rw [ub c,ub (show sz (.tup (l.map D.str))<=600 by simp only [sz];omega),ub (show dp (.tup (l.map D.str))<=12 by simp only [dp];omega)]
  simp [good,h1,c]
 ·rw [uc c];simp [good,h1,c]
theorem rowG_take:∀(zs O:oj Str),(∀z∈zs,nm z=v_/\z.length<=4)->(∀z∈O,nm z=v_/\z.length<=4)->O.length<=40->rowG O zs=O++zs.take (40-O.length)
 | [],O,_,_,_=>by rw [HQ,uW];rfl
 |z::r,O,h1,h2,h3=>by
  have h4:∀y∈O++ [z],nm y=v_/\y.length<=4:=λy U=>by
   rcases Aa.mp U with U|U
   ·exact h2 y U
   ·cases A9.mp U;exact h1 z uf
  unfold rowG;rw [row_tr h4,uu];by_cases c:O.length+1<=40
  ·rw [A5 (ub (by exact c)),rowG_take r _ (λy U=>h1 y (ue _ U)) h4 (by rw [uu];exact c),uu,show 40-O.length=(40-(O.length+ [z].length))+1 by show 40-O.length=(40-(O.length+1))+1;omega,UG,Ud]
   rfl
  ·rw [A4 (by rw [uc (by exact c)];exact u9),show 40-O.length=0 by omega,tJ,uW]
section
open PySem.Builtin PySem.Builtin.Str
theorem slice_few (z:Str)(l u:om Int):(VT z l u).length<=(strSliceIndices l u 1 z.length).length:=by
 unfold VT;split
 ·rename_i h
  rw [ur,V3,V3] at h;omega
 ·show(TL _ (strSliceIndices l u 1 z.length)).toArray.size<=_;rw [uj];exact FG _ _
theorem sTo (z:Str){m:Nat}(h:m<=z.length):(VT z U_ (u_ (m:Int))).cps.toList=z.cps.toList.take m:=by
 have e:VT z U_ (u_ (m:Int))=⟨((z.cps.toList.drop 0).take ((m:Int)-0).toNat).toArray⟩:=StrLaws.sliceText_to ⟨(),by rw [<-kU];omega⟩
 rw [e];simp
theorem sTo_len (z:Str)(m:Nat):(VT z U_ (u_ (m:Int))).length<=z.length:=by
 refine uI (slice_few z U_ (u_ (m:Int))) ?_;unfold strSliceIndices sliceRange;simp only [show(1:Int)>0 by decide,V6,ua,H_]
 (split<;>(try split)<;>(try split)<;>(try simp only [TD])<;>omega)
theorem starts_eq (z y:Str):Vo z y=decide (V.str (VT z U_ (u_ (y.length:Int)))=V.str y):=by
 unfold Vo;rw [Fs,Hi];rcases UZ z.length y.length with h|h
 ·rw [uc (),tT,uc]
  intro q;have:=sTo_len z y.length;rw [V.str.inj q] at this;omega
 ·rw [ub (),Hq]
  have e:=sTo z h;rw [vD,V3,uH];constructor
  ·intro q;rw [str_ext (e.trans q)]
  ·intro q;rw [V.str.inj q] at e;exact e.symm
end
noncomputable def SrcAt (H:Hp)(d:o3)(o:Obj)(ps:oj (Str×D)):Prop:=∃vs:oj (Str×V),H d=u_ (.frz o (.dK (inrK vs)))/\vs.map (·.1)=ps.map (·.1)/\L2.IsL H (ps.map (·.2)) (vs.map (·.2))
variable {o:Obj}
theorem SrcAt.same {d:o3}(h:SrcAt H d o ps)(s:Same H H'):SrcAt H' d o ps:=by
 erw[h,vs,h1,h2,h3];exact⟨vs,s _ _ h1,h2,h3.mono s.tk⟩
structure PQ (ps qs:oj (Str×D)):Prop where
 pm:qs.Perm ps
 tab:Q0 qs
 nd:(ps.map (·.1)).Nodup
 sh:∀p∈ps,p.1.length<=4
variable {qs:oj (Str×D)}
theorem PQ.keys (h:PQ ps qs):z∈qs.map (·.1)↔z∈ps.map (·.1):=(h.pm.map _).mem_iff
theorem PQ.dat (h:PQ ps qs)(O:z∈ps.map (·.1)):qG qs z=qG ps z:=dat_perm h.nd h.pm O
theorem PQ.ok (h:PQ ps qs):∀z∈qs.map (·.1),nm z=v_/\z.length<=4:=λz O=>by
 erw[Ab.mp O,p,U,rfl];exact[h.tab.1.1.1 _ O:h.sh p (h.pm.mem_iff.mp U)]
inductive sp_llook (vs:List V) (H:Hp) (Q:VK) (E_:XK):Prop
 |mk (d:Addr) (o:Obj) (kind text:Str) (ps qs:List (Str×D)) (_:vs= [.ref d,.str kind,.str text]) (_:SrcAt H d o ps) (_:PQ ps qs) (_:isHN kind=v_) (_:text.length<=1000) (_:∀v H',Same H H'->Is H' (j3 qs kind text) v->Q v H')
noncomputable def rwT (text:Str)(l:oj Str):oj Str:=(l.filter λz=>Vo z text).take 40
theorem rwT_more {text:Str}:rwT text (l++ [z])=if(Vo z text=v_/\(rwT text l).length<40) then rwT text l++ [z] else rwT text l:=by
 unfold rwT;rw [Ut,List.take_append,vR];by_cases c:Vo z text=v_
 ·rw [List.filter_cons_of_pos (p:=λz=>Vo z text) c,Ra];by_cases d:(l.filter λz=>Vo z text).length<40
  ·rw [A5 [c:()],vc (l:= [z]) (by show 1<=_;omega)]
  ·rw [A4 (λh=>d (by have:=h.2;omega)),show 40-(l.filter λz=>Vo z text).length=0 by omega,tJ,uW]
 ·rw [List.filter_cons_of_neg (p:=λz=>Vo z text) c,Ra,HQ,uW,A4 (λh=>c h.1)]
theorem IsL.strs4 {H:Hp}:∀{l:oj Str},(∀z∈l,z.length<=4)->L2.IsL H (l.map D.str) (l.map V.str)
 | [],_=>rfl
 |z::r,h=>⟨_,0,yU (by have:=h z uf;omega),IsL.strs4 λy O=>h y (ue _ O)⟩
section
variable {P:o9}{w:og}{K:o0}{mg:Str->om o6}{base:o8}{a:Ad}{g:Ga}
theorem ok_llook (T:Tx K mg a):#[K,1,a.JF,a.Jr,["sources","kind","text"],sp_llook]:=by
 refine T.g_law_looked_up.F.ok yg () (λ_ _ _ s H vs Q E hr h=> ?_)
 erw[h,d,o,kind,text,ps,qs,rfl,hS,hq,hk,ao,k];have hs:=uB;erw[hS,vs,hd,ae,af];have am:ps.length<=60:=by rw [<-hq.pm.length_eq];exact hq.tab.2.2
 exists _,%[#[qI,#[qq,Qs,pv 1,qm],%[|#[qt,#[qH,yK,#[QT,#v[qm,qm]],#[qZ,call_int1,T.z_int,boot_int,#v[#[pe_cmp,6,#[w8,pv 2,pv 0],_]]]]]],qv],#[qC,(3),yg.nd,#[qE,qd]],#[YV,#[X7,#[qx,#[Kl,1,rfl],T.z_sorted,RO,#v[pv 0]]],#[qT,(4),yg.nd],%[|@qI _ _ _ _ _ _ _ _ #[wy,#[qq,Qs,#[Zx,10,sl_str,pv 4,kz,#[ZK,#[qx,Jc,T.yt,uG,#v[pv 2]]]],pv 2],#[zA,#[qq,op_lt,#[qx,qM,T.yt,uG,#v[pv 3]],ql]]].pt %[|#[qC,(3),yg.nd,#[qY,Xl,pv 3,#[qE,#v[pv 4]]]]] qv]]|#[qt,pv 3]]
 exists 7
 exists 8,N1,q1;exists 0,1,0;by_cases c:kind="has"
 ·refine iteB (ub (by rw [c])) [sml rfl:λl hl=> ?_]
  have s1:=qg hl (.lst [V.str "no",V.str "yes"]);refine⟨0,0,d,0,.inl ⟨_,V9 text,.inr [o:s1 _ _ hd],1,1⟩,.inr [0:?_]⟩;rw [has_key ae af];have hL:j3 qs kind text= .str (if text∈ps.map (·.1) then "yes" else "no"):=by
   unfold j3;rw [A5 c];by_cases e:text∈ps.map (·.1)
   ·rw [A5 e,A5 (hq.keys.mpr e)]
   ·rw [A4 e,A4 (λz=>e (hq.keys.mp z))]
  by_cases e:text∈ps.map (·.1)
  ·refine⟨l,_,_,V.str "yes",1,1,SqL.of qh,(by rw [ub e];rfl),k _ _ s1 ?_⟩
   rw [hL,A5 e];exact yU ()
  ·refine⟨l,_,_,V.str "no",1,1,SqL.of qh,(by rw [uc e];rfl),k _ _ s1 ?_⟩
   rw [hL,A4 e];exact yU ()
 refine iteN (uc (λz=>c (V.str.inj z))) (q1 _ _ ?_);exists 8,N2,q2;refine[uN _:λt ht=>q2 _ _ ?_];exists 8,N3,q3;have s1:=qg ht (.tup ([]:oj V));have e1:upd H t (.tup []) t=u_ (.tup ((rwT text []).map V.str)):=qh;generalize upd H t (.tup [])=H1 at s1 e1⊢;have ag:(inrK vs).map (·.1)=(ps.map (·.1)).map Sum.inr:=by
  rw [<-ae];unfold inrK;rw [uK,uK]
  rfl
 refine⟨0,d,inrK vs,ps.map (·.1),1,.inr [o:s1 _ _ hd],ag,by rw [ua];omega,λms q ah aa ak=> ?_⟩
 have al:ms=qs.map (·.1):=sorted_one aa hq.tab.2.1 (ah.trans (hq.pm.map _).symm);subst al;have s2:=qg ak (.lst ((qs.map (·.1)).map V.str));have e2:=s2 _ _ e1;have ac:upd H1 q (.lst ((qs.map (·.1)).map V.str)) q=u_ (.lst ((qs.map (·.1)).map V.str)):=qh;generalize upd H1 q (.lst ((qs.map (·.1)).map V.str))=H2 at s2 e2 ac⊢;exists q,1,[_:SqL.of ac];have hok:=hq.ok
 let J_:Nat->L2.St->Hp->Prop:=λi σ H'=>∃(t:o3) (v4:om V),σ= [u_ (.ref d),u_ (.str kind),u_ (.str text),u_ (.ref t),v4]/\Same H2 H'/\H' t=u_ (.tup ((rwT text ((qs.map (·.1)).take i)).map V.str))
 refine XS (xs:=(qs.map (·.1)).map V.str) J_ ⟨t,U_,1,Same.refl _,e2⟩ (λi σ H' _ h=>by erw[h,_,_,_,s,_];exact SqL.of (s _ _ ac)) ?_ ?_
 ·rintro i y σ H' hy ⟨t',v4,rfl,s3,e3⟩;rw [uE] at hy;cases O:(qs.map (·.1))[i]? with
  |none=>rw [O] at hy;cases hy
  |some z=>
   rw [O] at hy;cases hy;have ap:=hok z (uQ O);have et:(qs.map (·.1)).take (i+1)=(qs.map (·.1)).take i++ [z]:=by rw [uY,O];rfl
   exists 0,0,text,1,(),0,0,(),0,1,0
   have no:¬(Vo z text=v_/\(rwT text ((qs.map (·.1)).take i)).length<40)->J_ (i+1) [u_ (.ref d),u_ (.str kind),u_ (.str text),u_ (.ref t'),u_ (.str z)] H':=λhn=>⟨t',0,s3,by rwa [et,rwT_more,A4 hn]⟩
   cases U:Vo z text with
   |false=>
    refine iteN (by rwa [<-starts_eq]) ?_
    exact iteN rfl (no (λh=>by rw [U] at h;exact u9 h.1))
   |true=>
    refine iteB (by rwa [<-starts_eq]) ?_
    exists 0,t',0,.inr (SqT.of e3),_,0,1,0;have ad:((rwT text ((qs.map (·.1)).take i)).map V.str).length=(rwT text ((qs.map (·.1)).take i)).length:=ua ..;by_cases cl:(rwT text ((qs.map (·.1)).take i)).length<40
    ·refine iteB (ub (by rw [ad];omega)) ?_
     refine⟨0,0,cat1 e3 (by rw [ad];omega) λp2 H3 s4 h4=> ?_⟩
     exists p2,0,s3.trans s4;rw [h4,et,rwT_more,A5 [U:cl],Vc]
     rfl
    ·refine iteN (uc (by rw [ad];omega)) ?_
     exact no (λh=>cl h.2)
 ·rintro σ H' ⟨t',v4,rfl,s3,e3⟩;refine q3 _ _ [0:k _ H' ((s1.trans s2).trans s3) ?_];rw [ua,vv] at e3;have hL:j3 qs kind text=rowT (rwT text (qs.map (·.1))):=by
   unfold j3;rw [A4 c,rowG_take _ [] (λz O=>hok z (Ac.mp O).1) (λz O=>by cases O) (uN _)]
   rfl
  rw [hL];exact⟨t',0,e3,IsL.strs4 λz O=>(hok z (Ac.mp (rQ O)).1).2⟩
inductive sp_tried (vs:List V) (H:Hp) (Q:VK) (E_:XK):Prop
 |mk (d vd:Addr) (o:Obj) (n:Str) (ps qs va:List (Str×D)) (g:Gp) (_:vs= [.ref d,.str n,.ref vd]) (_:SrcAt H d o ps) (_:PQ ps qs) (_:jd H vd va) (_:VOk qs va) (_:n∈qs.map (·.1)) (_:g0D n (qG qs n)=u_ g) (_:∀v H',Same H H'->Is H' (xg (Sy.it (SyP qs) (orcV qs va) 302 g)) v->Q v H')
theorem it_last {f:Sy.Orc}{n:Str}{g p:Gp}{k:Nat}(O:g0D n (qG qs n)=u_ g)(h:Sy.it (SyP qs) f k g=p)(U:p.en.isSome=v_):Sy.it (SyP qs) f 302 g=p:=by
 have h1:(SyP qs).fin (Sy.it (SyP qs) f k g)=true:=by rwa [h]
 rw [<-h];exact Sy.it_one (Sy.it_end (Qq qs) 302 g ((Qq qs).l0 n g O)) h1
theorem it_step {f:Sy.Orc}{g p:Gp}{k:Nat}(h:Sy.it (SyP qs) f k g=p):Sy.it (SyP qs) f (k+1) g=Sy.step (SyP qs) f p:=(Sy.it_snoc (Y:=SyP qs) (f:=f) k g).trans (congrArg (Sy.step (SyP qs) f) h)
variable {m:Str}
theorem kH {f:Sy.Orc}{p:Gp}(O:p.en=U_)(U:ya p=u_ m):Sy.step (SyP qs) f p=match f m with
  |some a=>yc p (a.getD .non)
  |none=>stkP p m:=by
 have e:Sy.step (SyP qs) f p=if p.en.isSome=v_ then p else match ya p with
  |none=>ownP qs p
  |some m=>match f m with
   |some a=>yc p (a.getD .non)
   |none=>stkP p m:=rfl
 rw [e,O,U]
 rfl
theorem step_ow {f:Sy.Orc}{p:Gp}(O:p.en=U_)(U:ya p=U_):Sy.step (SyP qs) f p=ownP qs p:=by
 have e:Sy.step (SyP qs) f p=if p.en.isSome=v_ then p else match ya p with
  |none=>ownP qs p
  |some m=>match f m with
   |some a=>yc p (a.getD .non)
   |none=>stkP p m:=rfl
 rw [e,O,U]
 rfl
variable {va:oj (Str×D)}
theorem orc_in (h1:m∈qs.map (·.1))(h2:m∉va.map (·.1)):orcV qs va m=none:=by
 unfold orcV;rw [A5 h1,A4 h2]
theorem orc_get (h:VOk qs va)(h1:¬(m∈qs.map (·.1)/\m∉va.map (·.1))):∃a,orcV qs va m=u_ a/\(m∈va.map (·.1)->a.getD .non=qG va m)/\(m∉va.map (·.1)->a.getD .non= .non)/\j8 (a.getD .non):=by
 unfold orcV;by_cases c:m∈qs.map (·.1)
 ·have d:m∈va.map (·.1):=RP λd=>h1 [c:d];rw [A5 c,A5 d];exact⟨0,λ_=>rfl,λz=>absurd d z,.inr (h.sub m d).2.2⟩
 ·rw [A4 c];exact⟨0,λz=>absurd (h.sub m z).1 c,λ_=>rfl,.inl rfl⟩
theorem get_va {vd:o3}{ws:oj (Str×V)}(hd:H vd=u_ (.dK (inrK ws)))(O:ws.map (·.1)=va.map (·.1))(U:L2.IsL H (va.map (·.2)) (ws.map (·.2)))(m:Str):∃ov:om V,DGet H vd (.str m) ov/\ov.isSome=decide (m∈va.map (·.1))/\(m∈va.map (·.1)->Is H (qG va m) (ov.getD .non))/\(m∉va.map (·.1)->ov.getD .non= .non):=by
 by_cases c:m∈va.map (·.1)
 ·erw[Wx O U c,l1,l2];exact⟨u_ (X4 ws m),by rw [<-l1];exact DGet.k (k:=V9 m) hd,by rw [ub c];rfl,λ_=>l2,λz=>absurd c z⟩
 ·have l0:=kP (z:=m) (vs:=ws) (by rw [O];exact c)
  exact⟨U_,by rw [<-l0];exact DGet.k (k:=V9 m) hd,by rw [uc c];rfl,λz=>absurd z c,λ_=>rfl⟩
theorem get_src {d:o3}{vs:oj (Str×V)}(hd:H d=u_ (.frz o (.dK (inrK vs))))(O:vs.map (·.1)=ps.map (·.1))(U:L2.IsL H (ps.map (·.2)) (vs.map (·.2)))(m:Str):∃ov:om V,DGet H d (.str m) ov/\ov.isSome=decide (m∈ps.map (·.1)):=[_:.inl ⟨_,V9 m,.inr [o:hd],1,1⟩:has_key O U m]
theorem ok_tried (T:Tx K mg a)(C:Fx K w mg g a):#[K,8,a.ZL,a.wZ,["sources","name","values"],sp_tried]:=by
 have wx:=#[ok_isrule,T,C];have Y8:=#[ok_minit,T,C];have QK:=#[ok_now,T];have yF:=#[ok_asks,T];have yd:=#[ok_ans,T,C];have ZW:=#[ok_llook,T];exists 9,T.g_law_tried,QC
 erw[h,d,vd,o,n,ps,qs,va,gp,rfl,hS,hq,hV,hO,a8,hg,k];have hs:=uB;erw[Xz hq.tab a8,a9,kk,ee,aJ,g1,g2];have b5:=kL a9;have ba:=hq.keys.mp a8;erw[id hS,bB,hd,aB,aC];erw[Wx aB aC ba,l1,l2];rw [<-hq.dat ba,aJ] at l2;erw[l2,ts,ws,bC,aK,w1,r1,rfl,[rfl,b6],w2,r2,rfl,bb,h3];cases(show r2= [] from h3)
 rw [bC] at l1;exists _,%[#[qC,(3),QC.nd,#[Qr,pv 1]],#[qC,(4),QC.nd,#[qH,qF,pv 3,ql]],#[qC,(5),QC.nd,#[qE,qd]],#[qI,#[qq,Qs,#[qH,qF,pv 3,ql],qm],%[@qI _ _ _ _ _ _ _ _ #[wy,#[Jz,#[w8,#[qH,qF,pv 3,ql],pv 0]],#[zA,#[Jz,#[Jn,#[qH,qF,pv 3,ql],pv 2]]]].pt %[|#[qt,#[qE,#v[#[qE,qd],#[qE,#v[qm,#[qH,qF,pv 3,ql]]]]]]] qv,#[qC,(4),QC.nd,#[pe_dget2,9,Qn hr,pv 2,#[qH,qF,pv 3,ql],qX,⟨1,1,1,1⟩]],#[qC,(5),QC.nd,#[qE,#v[#[qE,#v[#[qE,#v[qm,#[qH,qF,pv 3,ql]]],pv 4]]]]]|#[qI,#[qq,Ym,pv 4,qX],%[|#[qt,#[qE,#v[pv 5,#[qE,#v[qm,qm]]]]]],qv]],qv],#[qI,#[Qy,#[Qj,#[qw,wx,T.g_is_rule,#v[pv 4]]]],%[|#[qt,#[qE,#v[pv 5,#[qE,#v[qm,qm]]]]]],qv],#[qC,(6),QC.nd,#[ZS,T.M_Machine,Y8,T.m_Machine,T.g_Machine_init,passF,#v[pv 4,pv 1]]],#[J5,#[qq,Qs,#[qH,JS,#[QB,pv 6,T.qr,T.g_Machine_now,QK],ql],qm],%[#[ps_asg,6,#[qH,JS,#[QB,pv 6,T.qr,T.g_Machine_now,QK],ql],#[pg_tup,6,rfl,yD #[qT,(7),QC.nd] (yD #[qT,(8),QC.nd] ZP),_,_],_,_,_],@qI _ _ _ _ _ _ _ _ #[wy,#[qq,Qs,pv 7,qm],#[wy,#[Jz,#[w8,pv 8,pv 0]],#[zA,#[Jz,#[Jn,pv 8,pv 2]]]]].pt %[|#[qt,#[qE,#v[#[qY,Xl,pv 5,#[QB,pv 6,T.qr,T.g_Machine_asked,yF]],#[qE,#v[qm,pv 8]]]]]] qv|#[qI,#[qq,Qs,pv 7,qm],%[|#[qV,#[Qv,pv 6,T.qr,T.g_Machine_answer,yd,#v[#[pe_dget2,9,Qn hr,pv 2,pv 8,qX,⟨1,1,1,1⟩]]]]],%[|#[qV,#[Qv,pv 6,T.qr,T.g_Machine_answer,yd,#v[#[qw,ZW,T.g_law_looked_up,#v[pv 0,pv 7,pv 8]]]]]]]]]|#[qt,#[qE,#v[#[qY,Xl,pv 5,#[QB,pv 6,T.qr,T.g_Machine_asked,yF]],#[QB,pv 6,T.qr,T.g_Machine_now,QK]]]]]
 exists 7
 exists 8,N1,q1;refine⟨0,0,d,0,.inl ⟨_,V9 n,.inr [o:hd],1,l1.symm⟩,q1 _ _ ?_⟩;exists 8,N2,q2;refine⟨0,ts,_,_,0,1,SqT.of aK,1,q2 _ _ ?_⟩;exists 8,N3,q3;refine[uN _:λt0 bc=>q3 _ _ ?_];have s0:=qg bc (.tup ([]:oj V));have i0:Is (upd H t0 (.tup [])) (.tup []) (.ref t0):=Is.new (ds:= []) rfl bc;generalize upd H t0 (.tup [])=H0 at s0 i0⊢;exists 8,N4,q4;have out:∀(p:Gp) (j:Nat) (v1 v2:V) (H':Hp),Sy.it (SyP qs) (orcV qs va) j gp=p->p.en.isSome=v_->Same H H'->Is H' (.tup (p.ra++runPG p.run)) v1->Is H' (p.en.getD .non) v2->∀t,H' t=U_->Q (.ref t) (upd H' t (.tup [v1,v2])):=λp j v1 v2 H' h1 h2 s' i1 i2 t ht=>by
  refine k _ _ (s'.trans (qg ht _)) ?_;rw [it_last hg h1 h2];exact Is.new (ds:= [.tup (p.ra++runPG p.run),p.en.getD .non]) ⟨_,0,i1,_,0,i2,1⟩ ht
 have be:∀(rv av:V) (rd mb:D) (ra:oj D) (H1:Hp) (j:Nat),Same H H1->Is H1 rd rv->XC rd=V7->Is H1 (.tup ra) av->ra.length<=1->Sy.it (SyP qs) (orcV qs va) j gp=begP ⟨n,mb,ra,U_,U_⟩ rd->N4 [u_ (.ref d),u_ (.str n),u_ (.ref vd),u_ (.ref ts),u_ rv,u_ av,U_,U_,U_] H1:=by
  intro rv av rd mb ra H1 j s1 ir aF ia bY au;refine q4 _ _ ?_;exists 8,N5,q5;refine⟨0,rv,rd,1,ir,λH2 s2=>[0:?_]⟩;have af:=s1.trans s2;have bf:=it_gi0 hq.tab (orc_ok hO) j (Wq hq.tab hg).1;rw [au] at bf;cases hr:Q1 rd with
  |none=>
   refine iteT ?_;have hp:begP ⟨n,mb,ra,U_,U_⟩ rd=⟨n,mb,ra,U_,u_ (flt "rule")⟩:=by
    unfold begP;rw [aF,A4 u9,hr]
   rw [hp] at au;refine[0:sml rfl:λt1 h1=>[sml rfl:?_]];have m1:=qg h1 (.tup [V.str "fault",V.str "rule"]);refine out _ j av (.ref t1) _ au rfl (af.trans m1) ?_ (Is.new (ds:= [.str "fault",.str "rule"]) ⟨_,0,yU (),_,0,yU (),1⟩ h1)
   show Is _ (.tup (ra++ [])) av;rw [uW];exact(ia.mono s2.tk).mono m1.tk
  |some rs=>
   refine iteF (q5 _ _ ?_);erw[readD_ok hr,hR,bD];subst bD;have hp:begP ⟨n,mb,ra,U_,U_⟩ (JG rs)=⟨n,mb,ra,u_ (rs,R0 rs n),enOf (R0 rs n)⟩:=by
    unfold begP;rw [aF,A4 u9,hr]
   rw [hp] at au bf;exists 8,N6,q6;refine[0:0:λx dx hx bE nx=> ?_];have m0:Same H2 (upd (upd H2 dx (.own x)) x (.ins a.qo dx [])):=λb ob h=>by rwa [qi (qk h hx),qi (qk h bE)]
   refine⟨x,dx,rv,.str n,JG rs,.str n,1,qh,(ir.mono s2.tk).mono m0.tk,yU (),λz=> ?_,λ_ z=> ?_,λO bZ e1 bF e2 b7 b8 H3 db dg kept bg bh hM=>[1:q6 _ _ ?_]⟩
   ·rw [hr] at z;cases z
   ·rw [show isNm (.str n)=v_ from a9] at z
    cases z
   have e3:O=rs:=by
    have h1:=hR.read;rw [e1,bF.read] at h1;exact uF h1
   cases e2;subst e3;have s3:Same H2 H3:=λb ob h=>kept b ob (m0 b ob h) (qk h hx);have b9:=af.trans s3;have fx:H x=none:=af.free hx;have fb:H db=none:=af.free (m0.free bg);have fg:H dg=none:=af.free (m0.free bh);have ca:=(ia.mono s2.tk).mono s3.tk;have x2:H2 x=none:=hx;have b2:H2 db=none:=m0.free bg;have bG:H2 dg=none:=m0.free bh;exists 8,N7,q7
   let J_:Nat->L2.St->Hp->Prop:=λmm σ H'=>∃(i:Nat) (r:Rn) (u7 u8:om V),mm=lftP ⟨n,mb,ra,u_ (O,r),enOf r⟩/\σ= [u_ (.ref d),u_ (.str n),u_ (.ref vd),u_ (.ref ts),u_ rv,u_ av,u_ (.ref x),u7,u8]/\Same H2 H'/\yM a.qo H' ⟨x,db,dg,O,n⟩ r/\Sy.it (SyP qs) (orcV qs va) i gp=⟨n,mb,ra,u_ (O,r),enOf r⟩
   exists J_,⟨_,j,R0 O n,U_,U_,1,1,s3,hM,au⟩;rintro mm σ H4 ⟨i,r,u7,u8,rfl,rfl,s4,aa,aw⟩;have aG:=it_gi0 hq.tab (orc_ok hO) i (Wq hq.tab hg).1;rw [aw] at aG;erw[aG.run O r rfl,bo,aD,bp,hW];have cb:=af.trans s4;have bq:=(ia.mono s2.tk).mono s4.tk;have bt:=aa;erw[bt,ag,ac,_,_,_,_,ah,bH,_];have bI:∃w0 e0,r.th= .tup [.str w0,e0]:=by
    rcases bp with⟨z,h⟩|⟨e,h,_⟩|⟨u,z,h,_⟩
    ·exact[_:_:h]
    ·exact[_:_:h]
    ·exact[_:_:h]
   erw[bI,w0,e0,aL];have fin:∀(H':Hp),Same H2 H'->Same H H':=λH' s'=>af.trans s';have bJ:∀{H5 H6:Hp},Same H2 H5->Mv ⟨x,db,dg,O,n⟩ H5 H6->Same H2 H6:=λs' mv b ob e=>mv.kept b ob (s' b ob e) (qk e x2) (qk e b2) (qk e bG);have ak:∀m∈MTH,ac.lookup m=none:=bH.meth;have bu:ra.length+r.gs.length<=1000:=by have:=aD.gs.2.2;have:=aD.n;omega
   refine⟨0,x,ag,ac,1,ah,ak _ (),⟨x,db,dg,O,n⟩,r,1,aa,λv4 i4=> ?_⟩
   rw [aL] at i4;erw[i4,p4,cc,rfl,bK,y1,cd,rfl,[rfl,ce],y2,bL,rfl,cf,h5];cases(show bL= [] from h5)
   refine .inr (.inl ⟨p4,_,_,0,1,SqT.of bK,1,1,0,?_⟩);by_cases cw:w0="asks"
   ·refine iteB (ub (by rw [cw])) ?_
    have al:QH r.th=true:=by rw [aL,cw];rfl
    have am:enOf r=none:=by unfold enOf;rw [A5 al]
    obtain⟨u,z,ap,bM,bN⟩:∃(u z:Str),r.th= .tup [.str "asks",.tup [.str u,.str z]]/\isT (.str z)=v_/\(u="names"∨(u="thing"∨u="has")/\nm z=v_):=by
     rcases bp with⟨y,h⟩|⟨e,h,_⟩|h
     ·rw [h] at al;exact absurd al (show¬decide (("fault":Str)="asks")=v_ by decide+kernel)
     ·rw [h] at al;exact absurd al (show¬decide (("said":Str)="asks")=v_ by decide+kernel)
     ·exact h
    have bO:z.length<=300:=by
     have:=yf bM;simp only [good,Qp,ur,uH] at this;exact this.1
    have bv:yR ⟨n,mb,ra,u_ (O,r),enOf r⟩= .tup [.str u,.str z]:=by
     show zc r.th=_;rw [ap]
     rfl
    have ax:ya ⟨n,mb,ra,u_ (O,r),enOf r⟩=if isHN u=v_ then U_ else u_ z:=by
     unfold ya;rw [bv]
    have nxt:=it_step aw;exists λσ' H'=>∃m',m'<lftP ⟨n,mb,ra,u_ (O,r),enOf r⟩/\J_ m' σ' H',λ_ _ h=>h;have more:∀(dv:D) (u7 u8:om V) (H5:Hp),Sy.step (SyP qs) (orcV qs va) ⟨n,mb,ra,u_ (O,r),enOf r⟩=yc ⟨n,mb,ra,u_ (O,r),enOf r⟩ dv->Mv ⟨x,db,dg,O,n⟩ H4 H5->yM a.qo H5 ⟨x,db,dg,O,n⟩ (ansS O n r dv)->∃m',m'<lftP ⟨n,mb,ra,u_ (O,r),enOf r⟩/\J_ m' [u_ (.ref d),u_ (.str n),u_ (.ref vd),u_ (.ref ts),u_ rv,u_ av,u_ (.ref x),u7,u8] H5:=λdv u7 u8 H5 e1 mv aM=>
     ⟨_,KM (g:=⟨n,mb,ra,u_ (O,r),enOf r⟩) am dv,i+1,ansS O n r dv,_,0,1,bJ s4 mv,aM,nxt.trans e1⟩
    show tSeq _ _ _ _ H4;exists 8,B1,b1;refine⟨0,x,ag,ac,1,ah,ak _ (),⟨x,db,dg,O,n⟩,r,1,aa,λv5 i5=> ?_⟩
    rw [ap] at i5;erw[i5,p5,cg,rfl,bP,y3,ch,rfl,_,y4,bQ,rfl,[p6,ci,rfl,bR,y5,cj,rfl,[rfl,ck],y6,bS,rfl,[rfl,b3],h6],h7];cases(show bQ= [] from h7)
    cases(show bS= [] from h6)
    refine .inr (.inl ⟨p5,_,_,0,1,SqT.of bP,1,p6,0,SqT.of bR,1,_,0,_,0,1,b1 _ _ ?_⟩);exists 8,B2,b2;erw[hV,bT,aN,aO,aP];have ao:=fin H4 s4;have aH:=ao _ _ aN;have bw:=aP.mono ao.tk;erw[get_va aH aO bw z,ov,ay,aA,aQ,aR];erw[get_src (ao _ _ hd) aB (aC.mono ao.tk) z,ow,aS,ad];exists 0,1,0;by_cases cu:u="thing"
    ·refine iteB (ub (by rw [cu])) ?_
     have aq:ya ⟨n,mb,ra,u_ (O,r),enOf r⟩=u_ z:=by rw [ax,cu];rfl
     have go:¬(z∈qs.map (·.1)/\z∉va.map (·.1))->B2 [u_ (.ref d),u_ (.str n),u_ (.ref vd),u_ (.ref ts),u_ rv,u_ av,u_ (.ref x),u_ (.str u),u_ (.str z)] H4:=by
      intro aT;refine b2 _ _ ?_;erw[orc_get hO aT,oa,aU,aV,aW,aX];refine⟨0,1,0,iteB (ub (by rw [cu])) ?_⟩
      have aE:Is H4 (oa.getD .non) (ov.getD .non):=by
       by_cases c:z∈va.map (·.1)
       ·rw [aV c];exact aQ c
       ·rw [aW c,aR c];exact rfl
      have bU:ansB u (oa.getD .non)=true:=by
       rw [cu];unfold ansB;rcases aX with h|h
       ·rw [h];decide+kernel
       ·cases cn:XC (oa.getD .non) with
        |true=>rw [A5 rfl];decide+kernel
        |false=>rw [A4 u9,A5 h,A4 (show¬("thing":Str)="has" by decide+kernel),ub rfl];rfl
      refine⟨0,x,ag,ac,1,ah,ak _ (),0,vd,1,.inl [_:.inl aH],0,ov,ay,⟨x,db,dg,O,n⟩,r,_,u,.str z,oa.getD .non,1,aa,aD,ap,aE,bo,(),bU,λH5 mv aM=> ?_⟩
      refine more _ _ _ H5 ?_ mv aM;rw [kH am aq,aU]
     exists 0,0,d,ow,1,aS,0;by_cases c1:z∈ps.map (·.1)
     ·refine iteB (by rw [ad];exact ub c1) ?_
      exists 0,0,vd,ov,1,ay,0;by_cases c2:z∈va.map (·.1)
      ·refine iteN (by rw [aA,ub c2];rfl) ?_
       exact go (λh=>h.2 c2)
      ·refine iteB (by rw [aA,uc c2];rfl) ?_
       have bV:Sy.it (SyP qs) (orcV qs va) (i+1) gp=stkP ⟨n,mb,ra,u_ (O,r),enOf r⟩ z:=by rw [nxt,kH am aq,orc_in (hq.keys.mpr c1) c2]
       refine⟨0,0,x,ag,ac,1,ah,ak _ (),⟨x,db,dg,O,n⟩,r,1,aa,λv6 H6 s6 i6=> ?_⟩
       refine catG_is (bq.mono s6.tk) i6 bu λv7 H7 s7 i7=> ?_;refine[0:sml rfl:λt1 h1=>[sml rfl:?_]];have m1:=qg h1 (.tup [V.str "stuck",V.str z]);exact out _ (i+1) v7 (.ref t1) _ bV rfl (((ao.trans s6).trans s7).trans m1) (i7.mono m1.tk) (Is.new (ds:= [.str "stuck",.str z]) ⟨_,0,yU (),_,0,yU (),1⟩ h1)
     ·refine iteN (by rw [ad];exact uc c1) ?_
      exact iteN rfl (go (λh=>c1 (hq.keys.mp h.1)))
    ·refine iteN (uc (λy=>cu (V.str.inj y))) ?_;refine iteN rfl (b2 _ _ ?_);refine⟨0,1,0,iteN (uc (λy=>cu (V.str.inj y))) ?_⟩;have aY:isHN u=true:=by
      rcases bN with h|⟨h|h,_⟩
      ·rw [h];decide+kernel
      ·exact absurd h cu
      ·rw [h];decide+kernel
     have aq:ya ⟨n,mb,ra,u_ (O,r),enOf r⟩=none:=by rw [ax,A5 aY]
     refine⟨0,x,ag,ac,1,ah,ak _ (),0,0,0,d,o,u,z,ps,qs,1,⟨bB,ao _ _ hd,aB,aC.mono ao.tk⟩,hq,aY,(),λv6 H6 s6 i6=> ?_⟩
     refine⟨⟨x,db,dg,O,n⟩,r,_,u,.str z,j3 qs u z,1,aa.same s6,aD,ap,i6,bo,(),(Ka hq.tab z aY).2,λH7 mv bW=> ?_⟩
     refine more _ _ _ H7 ?_ ((Mv.of s6).trans mv) bW;rw [step_ow am aq];show ownP qs _=_;unfold ownP;rw [bv]
   ·refine iteN (uc (λy=>cw (V.str.inj y))) (q7 _ _ ?_);have al:QH r.th=false:=by rw [aL];exact uc cw
    have am:enOf r=u_ r.th:=by unfold enOf;rw [al,A4 u9]
    refine⟨0,0,x,ag,ac,1,ah,ak _ (),⟨x,db,dg,O,n⟩,r,1,aa,λv6 H6 s6 i6=> ?_⟩
    refine catG_is (bq.mono s6.tk) i6 bu λv7 H7 s7 i7=> ?_;have aZ:=s6.trans s7;refine⟨0,x,ag,ac,1,aZ _ _ ah,ak _ (),⟨x,db,dg,O,n⟩,r,1,aa.same aZ,λv8 i8=>[sml rfl:?_]⟩
    refine out _ i v7 v8 H7 aw (by show(enOf r).isSome=v_;rw [am];rfl) ((fin H4 s4).trans aZ) i7 ?_
    show Is H7 ((enOf r).getD .non) v8;rwa [am]
 exists 0,ts,_,_,0,1,SqT.of (s0 _ _ aK),1,1,0;by_cases cm:kk="made"
 ·refine iteB (ub (by rw [cm])) ?_
  erw[g1 cm,z,rfl,bX];obtain⟨rfl,bO⟩:=(show w2= .str z/\z.length<=Vb from bb)
  have b4:=kL bX;have a4:gp=⟨n,.str z,[],U_,U_⟩:=by
   rw [aJ,cm] at hg;exact(uF hg).symm
  subst a4;have ax:ya ⟨n,.str z,[],U_,U_⟩=u_ z:=rfl;have nxt:Sy.it (SyP qs) (orcV qs va) (0+1) ⟨n,.str z,[],U_,U_⟩=Sy.step (SyP qs) (orcV qs va) ⟨n,.str z,[],U_,U_⟩:=it_step rfl;erw[id hV,bT,aN,aO,aP];have aI:=s0 _ _ aN;erw[get_va aI aO (aP.mono s0.tk) z,ov,ay,aA,aQ,aR];erw[get_src (s0 _ _ hd) aB (aC.mono s0.tk) z,ow,aS,ad];have ae:=s0 _ _ aK;show tSeq _ _ _ _ H0;exists 8,A1,a1;have go:¬(z∈qs.map (·.1)/\z∉va.map (·.1))->A1 [u_ (.ref d),u_ (.str n),u_ (.ref vd),u_ (.ref ts),u_ (.str z),u_ (.ref t0),U_,U_,U_] H0:=by
   intro aT;refine a1 _ _ ?_;erw[orc_get hO aT,oa,aU,aV,aW,aX];have aE:Is H0 (oa.getD .non) (ov.getD .non):=by
    by_cases c:z∈va.map (·.1)
    ·rw [aV c];exact aQ c
    ·rw [aW c,aR c];exact rfl
   rw [kH rfl ax,aU] at nxt;exists 8,A2,a2;refine⟨0,vd,1,.inl [_:.inl aI],0,ts,_,_,0,1,SqT.of ae,1,ov,ay,a2 _ _ ?_⟩;exists 8,A3,a3;refine⟨0,ts,_,_,0,1,SqT.of ae,1,sml rfl,λt1 h1=>[0:sml rfl:λt2 h2=>[sml rfl:λt3 h3=>a3 _ _ ?_]]⟩;have m1:=qg h1 (.tup [V.str "rule",V.str z]);have m2:=qg h2 (.tup [V.ref t1,ov.getD .non]);have m3:=qg h3 (.tup [V.ref t2]);have i1:=Is.new (ds:= [.str "rule",.str z]) ⟨_,0,yU (),_,0,yU (),1⟩ h1
   have i2:=Is.new (ds:= [.tup [.str "rule",.str z],oa.getD .non]) ⟨_,0,i1,_,0,aE.mono m1.tk,1⟩ h2;have i3:=Is.new (ds:= [.tup [.tup [.str "rule",.str z],oa.getD .non]]) ⟨_,0,i2,1⟩ h3;have a5:=(m1.trans m2).trans m3;have U:=aE.mono a5.tk;have a6:=s0.trans a5;generalize upd (upd (upd H0 t1 (.tup [V.str "rule",V.str z])) t2 (.tup [V.ref t1,ov.getD .non])) t3 (.tup [V.ref t2])=H3 at a5 i3 U a6⊢;have a7:Sy.it (SyP qs) (orcV qs va) (0+1) ⟨n,.str z,[],U_,U_⟩=begP ⟨n,.str z,[.tup [.tup [.str "rule",.str z],oa.getD .non]],U_,U_⟩ (oa.getD .non):=nxt;exists 0,1,0;rcases aX with h|h
   ·rw [h] at U a7 i3;cases bx:ov.getD .non with
    |non=>
     refine iteB (ub rfl) ?_;refine[0:sml rfl:λt4 h4=>[sml rfl:?_]];have m4:=qg h4 (.tup [V.str "fault",V.str "lack"]);exact out _ _ (.ref t3) (.ref t4) _ a7 rfl (a6.trans m4) (i3.mono m4.tk) (Is.new (ds:= [.str "fault",.str "lack"]) ⟨_,0,yU (),_,0,yU (),1⟩ h4)
    |_=>rw [bx] at U;cases(show _=V.non from U)
   ·have bA:ov.getD .non≠ .non/\XC (oa.getD .non)=false:=by
     generalize oa.getD .non=dd at h U;cases dd with
     |str y=>exact⟨λe=>(by rw [e] at U;cases U.1),1⟩
     |tup ys=>exact⟨λe=>(by rw [e] at U;erw[U,_,_,e2,_];cases e2),1⟩
     |non=>exact absurd h ()
     |bl b=>exact absurd (yf h) (show¬V7=v_ by decide)
     |int b=>exact absurd (yf h) (show¬V7=v_ by decide)
     |lst=>exact absurd h ()
     |dct=>exact absurd h ()
    refine iteN (uc bA.1) ?_;exact be _ (.ref t3) (oa.getD .non) (.str z) _ H3 (0+1) a6 U bA.2 i3 (uh _) a7
  exists 0,ts,_,_,0,1,SqT.of ae,1,0,d,ow,1,aS,0;by_cases c1:z∈ps.map (·.1)
  ·refine iteB (by rw [ad];exact ub c1) ?_
   exists 0,ts,_,_,0,1,SqT.of ae,1,0,vd,ov,1,ay,0;by_cases c2:z∈va.map (·.1)
   ·refine iteN (by rw [aA,ub c2];rfl) ?_
    exact go (λh=>h.2 c2)
   ·refine iteB (by rw [aA,uc c2];rfl) ?_
    rw [kH rfl ax,orc_in (hq.keys.mpr c1) c2] at nxt;refine[uN _:λt1 h1=> ?_];have m1:=qg h1 (.tup ([]:oj V));refine⟨0,ts,_,_,0,1,SqT.of (m1 _ _ ae),1,sml rfl,λt2 h2=>[sml rfl:?_]⟩;have m2:=qg h2 (.tup [V.str "stuck",V.str z]);exact out _ _ (.ref t1) (.ref t2) _ nxt rfl ((s0.trans m1).trans m2) ((Is.new (ds:= []) rfl h1).mono m2.tk) (Is.new (ds:= [.str "stuck",.str z]) ⟨_,0,yU (),_,0,yU (),1⟩ h2)
  ·refine iteN (by rw [ad];exact uc c1) ?_
   exact iteN rfl (go (λh=>c1 (hq.keys.mp h.1)))
 ·refine iteN (uc (λz=>cm (V.str.inj z))) ?_;have a4:gp=begP ⟨n,.non,[],U_,U_⟩ ee:=by
   rw [aJ] at hg;unfold g0D at hg;simp only at hg;by_cases cl:kk="leaf"
   ·rw [A5 cl] at hg;cases hg
   ·rw [A4 cl,A4 cm] at hg;exact(uF hg).symm
  have hT:=(g2 cm).2;refine be w2 (.ref t0) ee .non [] H0 0 s0 (bb.mono s0.tk) ?_ i0 (uN _) a4;cases ee with
  |non=>exact absurd hT ()
  |_=>rfl
theorem KL:∀{l m:oj Str},l.Nodup->(∀x∈l,x∈m)->l.length<=m.length
 | [],m,_,_=>uN _
 |x::r,m,hn,hs=>by
  rw [Uz] at hn;have O:=hs x uf;have h:=KL (l:=r) (m:=m.erase x) hn.2 (λy U=>(List.mem_erase_of_ne (λz=>hn.1 (by rwa [<-z]))).mpr (hs y (ue _ U)))
  rw [List.length_erase_of_mem O] at h;have:0<m.length:=List.length_pos_of_mem O;rw [ui];omega
theorem for_dicF {d:o3}{o:Obj}{kvs:oj (Key×V)}{g:TG}{tb:TS}{D:Ends}{σ:L2.St}{H:Hp}(U:Nat->L2.St->Hp->Prop)(h0:U 0 σ H)(hl:∀i σ H,i<=kvs.length->U i σ H->H d=u_ (.frz o (.dK kvs)))
  (hs:∀i p σ H,kvs[i]? =u_ p->U i σ H->g (kV p.1) σ H λσ2 H2=>tb {D with nx:=U (i+1),ct:=U (i+1),bk:=D.nx} σ2 H2) (hd:∀σ H,U kvs.length σ H->D.nx σ H):
  ∃W:Nat->Nat->L2.St->Hp->Prop,(∃m,W 0 m σ H)/\∀i m σ H,W i m σ H->
   ((Itd d o).stop i H/\D.nx σ H)∨((Itd d o).go i H/\∃N:L2.St->Hp->Prop,(∀σ' H',N σ' H'->∃m',m'<m/\W (i+1) m' σ' H')/\∀x H',(Itd d o).yld i H x H'->g x σ H' λσ2 H2=>tb {D with nx:=N,ct:=N,bk:=D.nx} σ2 H2):=by
 exists λi m σ H=>m=kvs.length-i/\i<=kvs.length/\U i σ H,⟨kvs.length,by simp,uN _,h0⟩
 rintro i m σ H ⟨rfl,hi,p⟩;have q:=hl i σ H hi p;by_cases O:i<kvs.length
 ·refine .inr ⟨[kvs:q:O],U (i+1),λσ' H' p'=>⟨kvs.length-(i+1),(),1,O,p'⟩,λx H' y=> ?_⟩
  erw[y,rfl,y];have y:=y kvs q;rw [uE,ug O] at y;cases y;exact hs i _ σ _ (ug O) p
 ·have e:i=kvs.length:=by omega
  subst e;exact .inl [[kvs:q:uh _]:hd σ H p]
theorem lc_revF {K:o0}{a A:o3}{H1:Hp}{tc:TT}{te:TE}{tl:L2.St}{Q:VK}{ls:oj Str}(p:Str->Bool)(ha:H1 a=u_ (.lst (ls.map V.str)))(hn:ls.length<=Vb)(hA:H1 A=U_)
  (ad:∀z H (R:Bool->Hp->Prop),z∈ls->Same H1 H->R (p z) H->tc (u_ (.str z)::tl) H R)
  (ae:∀x H (R:VK),R x H->te (u_ x::tl) H R)
  (hQ:∀H',Same H1 H'->H' A=u_ (.lst ((ls.reverse.filter p).map V.str))->Q (.ref A) H'):lcGo A (IrvL K a (ls.map V.str).length) (jI 0) tc te (U_::tl) H1 Q:=by
 have ac:(ls.map V.str).length=ls.length:=ua ..;have af:ls.reverse.length=ls.length:=vJ;refine⟨ls.length,λi σ ys H=>(∃w,σ=w::tl)/\ys=((ls.reverse.take i).filter p).map V.str/\Same H1 H,hn,[[U_:1]:1:qg hA _],?_,?_⟩
 ·rintro i σ ys H hi ⟨⟨w,rfl⟩,rfl,sm⟩ U ag;have O:i<ls.reverse.length:=by omega
  have e0:(ls.map V.str)[(ls.map V.str).length-1-i]? =u_ (V.str (ls.reverse[i]'O)):=by
   rw [uE,ac,ug (),List.getElem_reverse]
   rfl
  exists ⟨(),_,SqL.of (sm _ _ ha),1⟩
  rintro x H' ⟨rfl,hx⟩;have e:=hx _ (SqL.of (sm _ _ ha));rw [e0] at e;cases e;have et:ls.reverse.take (i+1)=ls.reverse.take i++ [ls.reverse[i]'O]:=by rw [uY,ug O];rfl
  have aa:ls.reverse[i]'O∈ls:=List.mem_reverse.mp (v9 O);generalize ls.reverse[i]'O=z at et aa⊢;dsimp only [jI,GB];refine ad z H' _ aa sm ?_;cases hp:p z with
  |true=>
   refine iteT (ae _ H' _ ⟨U,⟨0⟩,?_,λc o e=> ?_⟩)
   ·rw [et,Ut];have: [z].filter p= [z]:=by simp [hp]
    rw [this,Vc]
    rfl
   ·rw [qi (qk e hA)];exact sm _ _ e
  |false=>
   refine iteF ⟨U,⟨0⟩,?_,sm⟩;rw [et,Ut];have: [z].filter p= []:=by simp [hp]
   rw [this,uW]
 ·rintro σ ys H ⟨_,rfl,sm⟩ U;rw [<-af,vv] at U;exact[ac.symm:hQ H sm U]
theorem put_nd {β:Type}{ps:oj (Str×β)}{e:β}(h:(ps.map (·.1)).Nodup):((putP ps z e).map (·.1)).Nodup:=by
 unfold putP;by_cases c:z∈ps.map (·.1)
 ·rwa [A5 c,Ko]
 ·rw [A4 c,Vc,rK];refine⟨h,by simp,λa ha b O e=> ?_⟩
  cases A9.mp O;rw [e] at ha;exact c ha
structure RunsOk (qs rr:oj (Str×D))(l:oj Str):Prop where
 keys:∀m,m∈rr.map (·.1)↔m∈l/\g0D m (qG qs m)≠U_
 dat:∀m g,m∈l->g0D m (qG qs m)=u_ g->qG rr m=xg (Sy.it (SyP qs) (Sy.F (SyP qs)) 302 g)
inductive sp_rounds (vs:List V) (H:Hp) (Q:VK) (E_:XK):Prop
 |mk (d:Addr) (o:Obj) (ps qs:List (Str×D)) (_:vs= [.ref d]) (_:SrcAt H d o ps) (_:PQ ps qs) (_:∀(t vd rd:Addr) (rr:List (Str×D)) (H':Hp),Same H H'->H' t=u_ (.tup [.ref vd,.ref rd])->jd H' rd rr->RunsOk qs rr (qs.map (·.1))->Q (.ref t) H')
theorem Kz {kk:Str}{ee:D}:g0D m (.tup [.str kk,ee])=U_↔kk="leaf":=by
 unfold g0D;simp only;constructor
 ·intro h;by_cases c:kk="leaf"
  ·exact c
  ·rw [A4 c] at h;split at h<;>cases h
 ·intro h;rw [A5 h]
structure Rds (ls:oj Str)(qs va:oj (Str×D))(wl:oj Str):Prop where
 ok:VOk qs va
 lf:VLf qs va ls
 nd:(va.map (·.1)).Nodup
 wt:∀m,m∈wl↔m∈ls/\m∉va.map (·.1)
 len:wl.length<=60
theorem en_said {p:Gp}(h:GI p)(he:p.en.isSome=v_):∃w e,p.en=u_ (.tup [.str w,e])/\(w="said"->jv p=u_ e)/\(w≠"said"->jv p=U_):=by
 cases U:p.en with
 |none=>rw [U] at he;cases he
 |some d=>
  have O:∀w e,d= .tup [.str w,e]->jv p=if w="said" then u_ e else none:=λw e hd=>by
   unfold jv;rw [U,hd]
   rfl
  rcases h.en d U with⟨z,hd⟩|⟨e,hd,_⟩|⟨z,hd⟩
  ·exact⟨_,_,by rw [hd];rfl,λc=>by rw [O _ _ hd,A5 c],λc=>by rw [O _ _ hd,A4 c]⟩
  ·exact⟨_,_,by rw [hd],λc=>by rw [O _ _ hd,A5 c],λc=>by rw [O _ _ hd,A4 c]⟩
  ·exact⟨_,_,by rw [hd],λc=>by rw [O _ _ hd,A5 c],λc=>by rw [O _ _ hd,A4 c]⟩
theorem ok_rounds (T:Tx K mg a)(C:Fx K w mg g a):#[K,9,a.JW,a.Je,["sources"],sp_rounds]:=by
 have We:=#[ok_tried,T,C];exists 9,T.g_law_by_rounds,qP
 erw[h,d,o,ps,qs,rfl,hS,hq,k];have hs:=uB;erw[id hS,aa,hd,aZ,bx];have a1:ps.length<=60:=by rw [<-hq.pm.length_eq];exact hq.tab.2.2
 have aH:(inrK aa).map (·.1)=(ps.map (·.1)).map Sum.inr:=by
  rw [<-aZ];unfold inrK;rw [uK,uK]
  rfl
 have aP:(inrK aa).length=(ps.map (·.1)).length:=by
  have:=congrArg Vz aH
  simpa using this
 have bU:(qs.map (·.1)).Nodup:=hq.tab.1.1.2;obtain⟨ls,aI⟩:∃ls,ls=ps.map (·.1):=⟨0⟩;have ae:∀m,m∈ls↔m∈qs.map (·.1):=λm=>by rw [aI];exact hq.keys.symm
 have bA:ls.length<=60:=by rwa [aI,ua]
 rw [<-aI] at aH aP;have a2:∀{va:oj (Str×D)},VOk qs va->(va.map (·.1)).Nodup->va.length<=60:=λ{va} h1 h2=>by
  have:=KL h2 (λx hx=>(h1.sub x hx).1);rw [ua,ua] at this;exact uI this hq.tab.2.2
 have a3:∀{i:Nat}{p:Key×V},(inrK aa)[i]? =u_ p->∃z,p.1=V9 z/\ls[i]? =u_ z:=λ{i p} h=>by
  have h1:((inrK aa).map (·.1))[i]? =u_ p.1:=by rw [uE,h];rfl
  rw [aH,uE] at h1;cases hz:ls[i]? with
  |none=>rw [hz] at h1;cases h1
  |some z=>rw [hz] at h1;exact[z:(uF h1).symm:1]
 have a4:∀(z:Str) (H':Hp),z∈ls->Same H H'->∃(ts:o3) (kk:Str) (w2:V) (ee:D),DGet H' d (.str z) (u_ (.ref ts))/\H' ts=u_ (.tup [.str kk,w2])/\qG qs z= .tup [.str kk,ee]/\Is H' ee w2/\(kk="leaf"->isT ee=v_):=by
  intro z H' hz s';have a5:z∈ps.map (·.1):=by rwa [<-aI]
  erw[Xz hq.tab ((ae z).mp hz),_,kk,ee,ac,_,g2];erw[Wx aZ bx a5,l1,l2];rw [<-hq.dat a5,ac] at l2;erw[l2,ts,ws,bB,au,w1,r1,rfl,[rfl,_],w2,r2,rfl,bC,h3];cases(show r2= [] from h3)
  rw [bB] at l1;exact⟨ts,kk,w2,ee,.inl ⟨_,V9 z,.inr [o:s' _ _ hd],1,l1.symm⟩,s' _ _ au,ac,bC.mono s'.tk,λc=>(g2 (by rw [c];decide+kernel)).2⟩
 exists _,%[#[qC,2,(1),4,qP.nd,rfl,V_ rfl,jL,_,_],#[YV,#[Ke,4,pv 0],#[qT,(2),qP.nd],%[|#[qI,#[qq,Qs,#[qH,qF,#[Qr,pv 2],ql],qm],%[|#[YH,pv 1,pv 2,#[qH,qF,#[Qr,pv 2],ql]]],qv]]],#[ZB,2,["name","values"],(1),[1],(3),12,qP.nd,rfl,gQ rfl,lcsN (qj QY) ["sources","values","name","waiting","grown","run","runs"],rfl,#[Ke,4,pv 0],(λ_ _ _ _ _ _=>#[qT,(0),(show Vp (["name","values"]:oj Str) by decide+kernel)]),(λ_ _ _ _ _ _=>#[kG,3,#[Jz,#[Jn,pv 0,pv 1]]]),(λ_ _ _ _ _ _=>(pv 0)),_,_,_],#[qC,(4),qP.nd,Ja],#[J5,#[Qj,pv 4],%[#[qC,(4),qP.nd,Ja],#[YV,#[X7,#[pe_lstRev,9,rfl,_,T.z_list,boot_list,_,T.W3,FY,pv 3,_,_,_,_,_,_,_,_]],#[qT,(2),qP.nd],%[#[qC,(5),qP.nd,#[qw,We,T.g_law_tried,#v[pv 0,pv 2,pv 1]]]|#[qI,#[qq,Qs,#[qH,qF,#[qH,qF,pv 5,ql],ql],qm],%[#[YH,pv 1,pv 2,#[qH,qF,#[qH,qF,pv 5,ql],ql]]|#[qC,(4),qP.nd,Ja]],qv]]]|#[ZB,2,["name","values"],(1),[1],(3),12,qP.nd,rfl,gQ rfl,lcsN (qj QY) ["sources","values","name","waiting","grown","run","runs"],rfl,#[pi_revL,6,_,T.W3,pv 3,_],(λ_ _ _ _ _ _=>#[qT,(0),(show Vp (["name","values"]:oj Str) by decide+kernel)]),(λ_ _ _ _ _ _=>#[kG,3,#[Jz,#[Jn,pv 0,pv 1]]]),(λ_ _ _ _ _ _=>(pv 0)),_,_,_]]],#[qC,(6),qP.nd,jL],#[YV,#[Ke,4,pv 0],#[qT,(2),qP.nd],%[|#[qI,#[qq,op_ne,#[qH,qF,#[Qr,pv 2],ql],qm],%[|#[YH,pv 6,pv 2,#[qw,We,T.g_law_tried,#v[pv 0,pv 2,pv 1]]]],qv]]]|#[qt,#[qE,#v[pv 1,pv 6]]]]
 exists 7
 exists 8,N1,q1;refine λvd aQ=>q1 _ _ ?_;have s1:=qg aQ (.dK []);have t1:jd (upd H vd (.dK [])) vd []:=⟨[],qh,1,1⟩;generalize upd H vd (.dK [])=H1 at s1 t1⊢;exists 8,N2,q2;exists 0,d,o,inrK aa,1,s1 _ _ hd
 let J1_:Nat->L2.St->Hp->Prop:=λi σ H'=>∃(va:oj (Str×D)) (u2:om V),σ= [u_ (.ref d),u_ (.ref vd),u2,U_,U_,U_,U_]/\Same H H'/\jd H' vd va/\VOk qs va/\VLf qs va (ls.take i)/\(va.map (·.1)).Nodup
 refine for_dicF (kvs:=inrK aa) J1_ ⟨[],U_,1,s1,t1,⟨λm hm=>by cases hm⟩,λm hm=>(by cases hm),vV⟩ (λi σ H' _ h=>by erw[h,_,_,_,s',_];exact s' _ _ hd) ?_ ?_
 ·rintro i p σ H' hp ⟨va,u2,rfl,s',⟨af,hV,aB,aJ⟩,hO,hL,aw⟩;erw[a3 hp,z,ez,hz];have ag:=uQ hz;have et:ls.take (i+1)=ls.take i++ [z]:=by rw [uY,hz];rfl
  erw[a4 z H' ag s',ts,kk,w2,ee,aq,au,ac,a6,bD];rw [ez];exists 0,0,d,0,aq,ts,_,_,0,1,SqT.of au,1,1,0;have bR:=a2 hO aw;have a7:(inrK af).length=va.length:=by
   have:=congrArg Vz aB;unfold inrK
   simpa using this
  by_cases c:kk="leaf"
  ·refine iteB (ub (by rw [c])) ?_
   exists 0,0,d,0,aq,ts,_,_,0,1,SqT.of au,1,0,0,vd,0,DPut.k (k:=V9 z) hV ()
   rw [put_inr];erw[put_tbl (z:=z) a6 aB aJ,f1,f2];have aK:(SyP qs).g0 z=none:=by
    show g0D z (qG qs z)=U_;rw [ac];exact Kz.mpr c
   have hF:Sy.F (SyP qs) z=u_ (u_ ee):=by
    rw [Sy.F_once (Qq qs) aK];show u_ (onceD (qG qs z))=_;rw [ac]
    rfl
   refine⟨putP va z ee,0,λb ob e=>by rw [qi (qk e aQ)];exact s' b ob e,jd.up hV f1 f2,hO.put ((ae z).mp ag) hF (bD c),?_,put_nd aw⟩
   rw [et];intro m hm U;rcases Aa.mp hm with hm|hm
   ·exact hL.put z ee m hm U
   ·cases A9.mp hm;exact xw.mpr (.inl rfl)
  ·refine iteN (uc (λy=>c (V.str.inj y))) ?_;refine⟨va,0,s',⟨af,hV,aB,aJ⟩,hO,?_,aw⟩;rw [et];intro m hm U;rcases Aa.mp hm with hm|hm
   ·exact hL m hm U
   ·cases A9.mp hm;rw [ac] at U;exact absurd (Kz.mp U) c
 rintro σ H2 ⟨va,u2,rfl,s2,aR,hO,hL,aw⟩;rw [aP,vv] at hL;refine q2 _ _ ?_;exists 8,N3,q3;have a8:∀(va:oj (Str×D)) (z:Str) (H':Hp) (R:Bool->Hp->Prop),jd H' vd va->R (decide (z∉va.map (·.1))) H'->∃ov:om V,DGet H' vd (.str z) ov/\R (!ov.isSome) H':=λva z H' R hV r=>by
  erw[hV,af,hV,aB,aJ];erw[get_va hV aB aJ z,ov,h1,h2,_];exists ov,h1;rw [h2];by_cases c:z∈va.map (·.1)
  ·rw [ub c];rwa [uc (λh=>h c)] at r
  ·rw [uc c];rwa [ub c] at r
 refine⟨0,d,o,inrK aa,1,s2 _ _ hd,λA0 a9=> ?_⟩;refine lc_dicF (tl:= [u_ (.ref vd)]) (λz=>decide (z∉va.map (·.1))) V.str (s2 _ _ hd) aH () a9 (λz H' R hz s' r=> ?_) (λz H' R hz s' r=>[0:r]) λH3 s3 ba=>q3 _ _ ?_
 ·erw[a8 va z H' R (aR.same s') r,ov,h1,h2];exact⟨0,0,vd,ov,1,h1,0,h2⟩
 exists 8,N4,q4;refine q4 _ _ ?_;exists 8,N5,q5
 let J2_:Nat->L2.St->Hp->Prop:=λmm σ H'=>∃(va:oj (Str×D)) (wl:oj Str) (gr:Bool) (wa:o3) (u2 u5:om V),mm=(if gr=v_ then wl.length+1 else 0)/\σ= [u_ (.ref d),u_ (.ref vd),u2,u_ (.ref wa),u_ (.bl gr),u5,U_]/\Same H H'/\jd H' vd va/\H' wa=u_ (.lst (wl.map V.str))/\Rds ls qs va wl/\(gr=V7->∀m∈wl,∀g,g0D m (qG qs m)=u_ g->jv (Sy.it (SyP qs) (orcV qs va) 302 g)=U_)
 exists J2_,⟨_,va,ls.filter λz=>decide (z∉va.map (·.1)),v_,A0,_,U_,1,1,s2.trans s3,aR.same s3,ba,⟨hO,hL,aw,λm=>by rw [Ac,uH],uI (vq ..) bA⟩,λz=>by cases z⟩
 clear aR hO hL aw s3 ba a9 s2 va a8;rintro mm σ H4 ⟨va,wl,gr,wa,u2,u5,rfl,rfl,s4,aC,aL,hR,bE⟩;have bV:=hR.len;exists 0,0;cases gr with
 |false=>
  refine iteN rfl (q5 _ _ ?_);have bb:orcV qs va=Sy.F (SyP qs):=orc_eq hR.ok (λm hm U=>hR.lf m ((ae m).mpr hm) U) λm hm hv g U=>bE rfl m ((hR.wt m).mpr [(ae m).mpr hm:hv]) g U;exists 8,N6,q6;refine λrd aS=>q6 _ _ ?_;have s5:=qg aS (.dK []);have t5:jd (upd H4 rd (.dK [])) rd []:=⟨[],qh,1,1⟩;have bF:rd≠vd:=λe=>by erw[aC,_,h,_];rw [<-e,aS] at h;cases h
  have aD:=aC.same s5;have ax:=s4.trans s5;generalize upd H4 rd (.dK [])=H5 at s5 t5 aD ax⊢;exists 8,N7,q7;exists 0,d,o,inrK aa,1,ax _ _ hd;have bc:H rd=none:=s4.free aS
  let J4_:Nat->L2.St->Hp->Prop:=λi σ H'=>∃(rr:oj (Str×D)) (u2:om V),σ= [u_ (.ref d),u_ (.ref vd),u2,u_ (.ref wa),u_ (.bl V7),u5,u_ (.ref rd)]/\Same H H'/\jd H' vd va/\jd H' rd rr/\RunsOk qs rr (ls.take i)/\rr.length<=i
  refine for_dicF (kvs:=inrK aa) J4_ ⟨[],u2,1,ax,aD,t5,⟨λm=>⟨λh=>(by cases h),λh=>(by cases h.1)⟩,λm g hm=>(by cases hm)⟩,uN _⟩ (λi σ H' _ h=>by erw[h,_,_,_,s',_];exact s' _ _ hd) ?_ ?_
  ·rintro i p σ H' hp ⟨rr,u2,rfl,s',aM,⟨be,aN,aT,bf⟩,ad,bW⟩;erw[a3 hp,z,ez,hz];have hi:i<ls.length:=(Ae.mp hz).1;have ag:=uQ hz;have et:ls.take (i+1)=ls.take i++ [z]:=by rw [uY,hz];rfl
   erw[a4 z H' ag s',ts,kk,w2,ee,aq,au,ac,a6,_];rw [ez];exists 0,0,d,0,aq,ts,_,_,0,1,SqT.of au,1,1,0;by_cases c:kk="leaf"
   ·refine iteN (by rw [c];simp) ?_
    have aK:g0D z (qG qs z)=none:=by rw [ac];exact Kz.mpr c
    refine⟨rr,0,s',aM,⟨be,aN,aT,bf⟩,[λm=> ?_:λm g hm U=> ?_],()⟩
    ·rw [ad.keys m,et,vM,vg];exact⟨λh=>[.inl h.1:h.2],λh=>⟨h.1.resolve_right (λe=>h.2 (by rwa [e])),h.2⟩⟩
    ·rw [et,vM,vg] at hm;rcases hm with hm|rfl
     ·exact ad.dat m g hm U
     ·rw [aK] at U;cases U
   ·refine iteB (by simp [c]) ?_
    obtain⟨gp,U⟩:∃gp,g0D z (qG qs z)=u_ gp:=by
     cases U:g0D z (qG qs z) with
     |none=>rw [ac] at U;exact absurd (Kz.mp U) c
     |some gp=>exact[gp:1]
    refine⟨0,0,0,d,vd,o,z,ps,qs,va,gp,1,hS.same s',hq,aM,hR.ok,(ae z).mp ag,U,λv6 H6 s6 i6=> ?_⟩;have aE:=s6 _ _ aN;have bS:(inrK be).length=rr.length:=by
     have:=congrArg Vz aT;unfold inrK
     simpa using this
    exists 0,0,rd,0,DPut.k (k:=V9 z) aE ()
    rw [put_inr];rw [bb] at i6;erw[put_tbl (z:=z) i6 aT (bf.mono s6.tk),f1,f2];erw[aM,af,ay,aA,aF];have bX:(putP rr z (xg (Sy.it (SyP qs) (Sy.F (SyP qs)) 302 gp))).length<=rr.length+1:=by
     unfold putP;split
     ·unfold setP;rw [ua];omega
     ·rw [uu];exact uh _
    refine⟨putP rr z _,0,λb ob e=>by rw [qi (qk e bc)];exact s6 _ _ (s' b ob e),⟨af,by rw [qi bF.symm];exact s6 _ _ ay,aA,(aF.mono s6.tk).mono (Tk.updD aE)⟩,jd.up aE f1 f2,[λm=> ?_:λm g hm ah=> ?_],()⟩
    ·rw [xw,ad.keys m,et,vM,vg];constructor
     ·rintro(rfl|h)
      ·exact⟨.inr rfl,by rw [U];intro y;cases y⟩
      ·exact[.inl h.1:h.2]
     ·rintro⟨h|h,h2⟩
      ·exact .inr [h:h2]
      ·exact .inl h
    ·rw [et,vM,vg] at hm;by_cases cm:m=z
     ·rw [Kt rr z m _ (.inl cm),A5 cm];rw [cm,U] at ah;cases ah
      rfl
     ·have bg:=hm.resolve_right cm;rw [Kt rr z m _ (.inr ((ad.keys m).mpr ⟨bg,by rw [ah];intro y;cases y⟩)),A4 cm]
      exact ad.dat m g bg ah
  ·rintro σ H' ⟨rr,u2,rfl,s',aM,aN,ad,_⟩;rw [aP,vv] at ad;refine q7 _ _ ?_;refine⟨0,0,sml rfl,λt ht=> ?_⟩;refine k t vd rd rr _ (s'.trans (qg ht _)) qh (aN.same (qg ht _)) [λm=> ?_:λm g hm U=>ad.dat m g ((ae m).mpr hm) U];rw [ad.keys m,ae m]
 |true=>
  refine iteB rfl ?_;exists λσ' H'=>∃m',m'<(if v_=v_ then wl.length+1 else 0)/\J2_ m' σ' H',λ_ _ h=>h
  show tSeq _ _ _ _ H4;refine qD λB1 b1=>b1 _ _ ?_;exists 8,B2,b2;refine⟨0,wa,0,SqL.of aL,λt ht=> ?_⟩;have s5:=qg ht (.lst (wl.map V.str).reverse);have aU:upd H4 t (.lst (wl.map V.str).reverse) t=u_ (.lst (wl.reverse.map V.str)):=by rw [qh,List.map_reverse]
  have aO:=s5 _ _ aL;have aD:=aC.same s5;have ax:=s4.trans s5;have bG:wa≠vd:=λe=>by erw[aC,_,h,_];rw [e,h] at aL;cases aL
  have bH:t≠vd:=λe=>by erw[aC,_,h,_];rw [e,h] at ht;cases ht
  generalize upd H4 t (.lst (wl.map V.str).reverse)=H5 at s5 aU aO aD ax⊢;exists t,1,[_:SqL.of aU]
  let J3_:Nat->L2.St->Hp->Prop:=λi σ H'=>∃(O:oj (Str×D)) (ak:Bool) (u2 u5:om V),σ= [u_ (.ref d),u_ (.ref vd),u2,u_ (.ref wa),u_ (.bl ak),u5,U_]/\Same H H'/\jd H' vd O/\H' wa=u_ (.lst (wl.map V.str))/\H' t=u_ (.lst (wl.reverse.map V.str))/\VOk qs O/\(O.map (·.1)).Nodup/\(∀m∈va.map (·.1),m∈O.map (·.1))/\(ak=V7->O=va/\∀m∈wl.reverse.take i,∀g,g0D m (qG qs m)=u_ g->jv (Sy.it (SyP qs) (orcV qs va) 302 g)=U_)/\(ak=v_->∃m∈wl,m∈O.map (·.1))
  refine XS (xs:=wl.reverse.map V.str) J3_ ⟨va,V7,_,0,ax,aD,aO,aU,hR.ok,hR.nd,(λm hm=>hm),λ_=>⟨1,λm hm=>(by cases hm)⟩,λy=>(by cases y)⟩ (λi σ H' _ h=>by erw[h,_,_,_,_,_,_,_,_,e,_];exact SqL.of e) ?_ ?_
  ·rintro i y σ H6 hy ⟨O,ak,u2,u5,rfl,s6,aG,al,aV,am,ao,ap,hf,aW⟩;rw [uE] at hy;cases hz:wl.reverse[i]? with
   |none=>rw [hz] at hy;cases hy
   |some z=>
    rw [hz] at hy;cases hy;have bh:z∈wl:=List.mem_reverse.mp (uQ hz);erw[(hR.wt z).mp bh,ag,bI];have bo:=(ae z).mp ag;have et:wl.reverse.take (i+1)=wl.reverse.take i++ [z]:=by rw [uY,hz];rfl
    obtain⟨gp,U⟩:∃gp,g0D z (qG qs z)=u_ gp:=by
     cases U:g0D z (qG qs z) with
     |none=>exact absurd (hR.lf z ag U) bI
     |some gp=>exact[gp:1]
    show tSeq _ _ _ _ H6;exists 8,C1,c1;refine⟨0,0,0,d,vd,o,z,ps,qs,O,gp,1,hS.same s6,hq,aG,am,bo,U,λv7 H7 s7 i7=>c1 _ _ ?_⟩;have bJ:=it_gi0 hq.tab (orc_ok am) 302 (Wq hq.tab U).1;have bp:(Sy.it (SyP qs) (orcV qs O) 302 gp).en.isSome=true:=Sy.it_end (Qq qs) 302 gp ((Qq qs).l0 z gp U);erw[en_said bJ bp,w0,e0,bK,bL,bM];have aX:xg (Sy.it (SyP qs) (orcV qs O) 302 gp)= .tup [.tup ((Sy.it (SyP qs) (orcV qs O) 302 gp:Gp).ra++runPG (Sy.it (SyP qs) (orcV qs O) 302 gp:Gp).run),.tup [.str w0,e0]]:=by
     unfold xg;rw [bK]
     rfl
    rw [aX] at i7;erw[i7,p7,bY,rfl,bq,y1,r1,rfl,_,y2,r2,rfl,[p8,bZ,rfl,bt,y3,r3,rfl,[rfl,_],y4,r4,rfl,bN,h4],h2];cases(show r2= [] from h2)
    cases(show r4= [] from h4)
    have bu:=s6.trans s7;have bv:=aG.same s7;exists 0,p7,_,_,0,1,SqT.of bq,1,p8,_,_,0,1,SqT.of bt,1,1,0;by_cases c:w0="said"
    ·refine iteB (ub (by rw [c])) ?_
     erw[said_F hq.tab am U (bL c),hF,hT];erw[bv,af,ay,aA,aF];have bT:=a2 am ao;have a7:(inrK af).length=O.length:=by
      have:=congrArg Vz aA;unfold inrK
      simpa using this
     exists 0,p7,_,_,0,1,SqT.of bq,1,p8,_,_,0,1,SqT.of bt,1,0,0,vd,0,DPut.k (k:=V9 z) ay ()
     rw [put_inr];erw[put_tbl (z:=z) bN aA aF,f1,f2];refine⟨putP O z e0,v_,_,0,λb ob e=>by rw [qi (qk e aQ)];exact bu b ob e,jd.up ay f1 f2,by rw [qi bG];exact s7 _ _ al,by rw [qi bH];exact s7 _ _ aV,am.put bo hF hT,put_nd ao,λm hm=>xw.mpr (.inr (ap m hm)),λy=>(by cases y),λ_=>[z:bh:xw.mpr (.inl rfl)]⟩
    ·refine iteN (uc (λy=>c (V.str.inj y))) ?_;refine⟨O,ak,_,0,bu,bv,s7 _ _ al,s7 _ _ aV,am,ao,ap,λaY=> ?_,aW⟩;erw[hf aY,h1,h2];refine[h1:λm hm g ah=> ?_];rw [et] at hm;rcases Aa.mp hm with hm|hm
     ·exact h2 m hm g ah
     ·cases A9.mp hm;rw [U] at ah;cases ah;rw [<-h1];exact bM c
  ·rintro σ H6 ⟨O,ak,u2,u5,rfl,s6,aG,al,aV,am,ao,ap,hf,aW⟩;rw [ua,vv] at hf;refine b2 _ _ ?_;refine⟨0,wa,0,SqL.of al,λA7 bO=> ?_⟩;refine lc_revF (tl:= [u_ (.ref vd)]) (λz=>decide (z∉O.map (·.1))) al () bO (λz H' R hz s' r=> ?_) (λx H' R r=>[0:r]) λH7 s7 bP=> ?_
   ·erw[aG.same s',af,ay,aA,aF];erw[get_va ay aA aF z,ov,h1,h2,_];exists 0,0,vd,ov,1,h1,0;rw [h2];by_cases c:z∈O.map (·.1)
    ·rw [ub c];rwa [uc (λh=>h c)] at r
    ·rw [uc c];rwa [ub c] at r
   have bw:∀m,m∈wl.reverse.filter (λz=>decide (z∉O.map (·.1)))↔m∈ls/\m∉O.map (·.1):=λm=>by
    rw [Ac,List.mem_reverse,uH,hR.wt m];exact[λh=>[h.1.1:h.2]:λh=>[[h.1:λy=>h.2 (ap m y)]:h.2]]
   have b3:(wl.reverse.filter λz=>decide (z∉O.map (·.1))).length<=wl.length:=by
    have:=vq (λz=>decide (z∉O.map (·.1))) wl.reverse;rwa [vJ] at this
   refine⟨_,?_,O,wl.reverse.filter λz=>decide (z∉O.map (·.1)),ak,A7,_,0,1,s6.trans s7,aG.same s7,bP,⟨am,λm hm U=>ap m (hR.lf m hm U),ao,bw,()⟩,λaY m hm g U=> ?_⟩
   ·cases ak with
    |false=>show 0<wl.length+1;omega
    |true=>
     erw[aW rfl,m,hm,bQ];have:(wl.reverse.filter λz=>decide (z∉O.map (·.1))).length<wl.reverse.length:=by
      refine Nat.lt_of_le_of_ne (vq ..) λe=> ?_;have:=List.length_filter_eq_length_iff.mp e m (List.mem_reverse.mpr hm);rw [uH] at this;exact this bQ
     rw [vJ] at this;show _+1<wl.length+1;omega
   ·erw[hf aY,h1,h2];subst h1;exact h2 m (List.mem_reverse.mpr ((hR.wt m).mpr ((bw m).mp hm))) g U
end
namespace Sy
variable {Y:Sy}
variable {S:Ss Y}{m:Str}
theorem nxt_nms (h:m∈jE S):m∈jE (nxt S):=by
 erw[S,stk,don];cases stk with
 |nil=>exact h
 |cons p r=>
  erw[p,n,g];unfold nxt;simp only;split
  ·unfold jE at h⊢;simp only [uq,Vc,U0,vT,uz,vM,uD,uM] at h⊢;rcases h with h|h|h
   ·exact .inr (.inr h)
   ·exact .inl h
   ·exact .inr (.inl h)
  ·split
   ·exact h
   ·split
    ·exact h
    ·exact h
    ·split
     ·exact ue _ h
     ·exact h
theorem nx_nms {S:Ss Y}{m:Str}{j:Nat}(h:m∈jE (nx S j)):∀d,m∈jE (nx S (j+d))
 |0=>h
 |d+1=>nxt_nms (nx_nms h d)
theorem nxt_fin {n:Str}{g:Y.G}{r:oj (Str×Y.G)}(O:S.stk=(n,g)::r)(U:Y.fin g=v_):nxt S=[r:S.don++ [(n,g)]]:=by
 unfold nxt;simp only [O,U,V6]
theorem nxt_own {n:Str}{g:Y.G}{r:oj (Str×Y.G)}(O:S.stk=(n,g)::r)(U:Y.fin g=V7)(hw:Y.want g=U_):nxt S=[(n,Y.own g)::r:S.don]:=by
 unfold nxt;simp only [O,U,A4 u9,hw]
theorem nxt_yet {n:Str}{g:Y.G}{r:oj (Str×Y.G)}{o:om (om D)}(O:S.stk=(n,g)::r)(U:Y.fin g=V7)(hw:Y.want g=u_ m)(hy:yet S m=u_ o):nxt S=⟨(n,match o with|some a=>Y.tk g a|none=>Y.stuck g m)::r,S.don⟩:=by
 unfold nxt;simp only [O,U,A4 u9,hw,hy];cases o<;>rfl
theorem nxt_in {n:Str}{g g':Y.G}{r:oj (Str×Y.G)}(O:S.stk=(n,g)::r)(U:Y.fin g=V7)(hw:Y.want g=u_ m)(hy:yet S m=U_)(hg:Y.g0 m=u_ g'):nxt S=[(m,g')::(n,g)::r:S.don]:=by
 unfold nxt;simp only [O,U,A4 u9,hw,hy,hg]
noncomputable def wl (Y:Sy)(f:Orc):Nat->Y.G->oj Str
 |0,_=> []
 |k+1,g=>if Y.fin g=v_ then [] else match Y.want g with
  |none=>wl Y f k (Y.own g)
  |some m=>m::wl Y f k (step Y f g)
variable {f:Orc}
theorem wl_fin {g:Y.G}(h:Y.fin g=v_):∀k,wl Y f k g= []
 |0=>rfl
 |k+1=>by unfold wl;rw [A5 h]
theorem wl_own {g:Y.G}{k:Nat}(O:Y.fin g=V7)(U:Y.want g=U_):wl Y f (k+1) g=wl Y f k (Y.own g):=by
 conv=>lhs;unfold wl
 rw [O,A4 u9,U]
theorem wl_want {g:Y.G}{k:Nat}(O:Y.fin g=V7)(U:Y.want g=u_ m):wl Y f (k+1) g=m::wl Y f k (step Y f g):=by
 conv=>lhs;unfold wl
 rw [O,A4 u9,U]
noncomputable def vis (Y:Sy)(w:Str->oj Str):Nat->oj Str×oj Str->Str->oj Str×oj Str
 |0,st,_=>st
 |k+1,st,n=>if(Y.g0 n).isNone=v_∨n∈st.1 then st else
  let t:=(w n).foldl (vis Y w k) (st.1++ [n],st.2)
  (t.1,t.2++ [n])
theorem vis_in {w:Str->oj Str}{st:oj Str×oj Str}{n:Str}(h:Y.g0 n=U_∨n∈st.1):∀k,vis Y w k st n=st
 |0=>rfl
 |k+1=>by
  unfold vis;rw [A5];rcases h with h|h
  ·exact .inl (by rw [h];rfl)
  ·exact .inr h
noncomputable def Bg (S:Ss Y)(B:oj Str):Prop:=∀x,x∈B↔x∈jE S
theorem Xu {S:Ss Y}:∀j,nx S (j+1)=nx (nxt S) j
 |0=>rfl
 |j+1=>congrArg nxt (Xu j)
theorem nx_add {S:Ss Y}(i:Nat):∀j,nx S (i+j)=nx (nx S i) j
 |0=>rfl
 |j+1=>congrArg nxt (nx_add i j)
theorem ZX {p q:Str->Bool}(h:∀x,q x=v_->p x=v_):∀l:oj Str,(l.filter q).length<=(l.filter p).length
 | []=>uh _
 |y::r=>by
  have O:=ZX h r;rw [vA,vA];cases h1:q y with
  |true=>rw [h y h1,A5 rfl,A5 rfl];simp only [ui];omega
  |false=>
   rw [A4 u9];split
   ·simp only [ui];omega
   ·exact O
theorem rest_le {U:Ss Y}(h:∀x∈jE S,x∈jE U):(rest U).length<=(rest S).length:=by
 refine ZX (λx O=> ?_) _;simp only [ur,uH] at O⊢;refine[λz=> ?_:λz=> ?_]
 ·rcases Aa.mp (h x (ve _ z)) with c|c
  ·exact O.1 c
  ·exact O.2 c
 ·rcases Aa.mp (h x (uJ _ z)) with c|c
  ·exact O.1 c
  ·exact O.2 c
variable {n0:Str}
theorem dfs (h:Y.Ok){w:Str->oj Str}(hw:∀m s,Y.g0 m=u_ s->w m=wl Y (F Y) Y.M s):∀(k c:Nat) (S:Ss Y) (m:Str) (g:Y.G) (r:oj (Str×Y.G)) (B:oj Str) (d:Nat),S.stk=(m,g)::r->SOk n0 S->Bg S B->(rest S).length<=k->Y.lft g<=c->Y.lft g<=d->
  ∃j p don' B',nx S j=[r:don'++ [(m,p)]]/\(wl Y (F Y) d g).foldl (vis Y w k) (B,S.don.map (·.1))=(B',don'.map (·.1))/\(∀x,x∈B'↔x∈r.map (·.1)∨x∈(don'++ [(m,p)]).map (·.1)):=by
 intro k
 induction k using HU with
 |_ k ap=>
 intro c
 induction c using HU with
 |_ c al=>
 intro S m g r B d aa hok hB ae hc hd;cases hf:Y.fin g with
 |true=>
  refine⟨(1),g,S.don,B,nxt_fin aa hf,by rw [wl_fin hf];rfl,λx=> ?_⟩
  rw [hB x];unfold jE;rw [aa];simp only [uq,Vc,U0,vT,uz,vM,uD,uM];constructor
  ·rintro(e|e|e)
   ·exact .inr (.inr e)
   ·exact .inl e
   ·exact .inr (.inl e)
  ·rintro(e|e|e)
   ·exact .inr (.inl e)
   ·exact .inr (.inr e)
   ·exact .inl e
 |false=>
  have hl:=Zw (f:=F Y) h hf;obtain⟨d',rfl⟩:∃d',d=d'+1:=[d-1:()]
  cases ac:Y.want g with
  |none=>
   have e:step Y (F Y) g=Y.own g:=by unfold step;rw [hf,A4 u9,ac]
   rw [e] at hl;have en:=nxt_own aa hf ac;have O:=nxt_ok h hok;rw [en] at O;obtain⟨j,p,don',B',h1,h2,h3⟩:=al (Y.lft (Y.own g)) () [(m,Y.own g)::r:S.don] m (Y.own g) r B d' rfl O (λx=>by rw [hB x];unfold jE;rw [aa];exact TY) (uI (rest_le λx hx=>by unfold jE at hx⊢;rwa [aa] at hx) ae) (uh _) ()
   refine⟨j+1,p,don',B',by rwa [Xu,en],?_,h3⟩
   have ew:wl Y (F Y) (d'+1) g=wl Y (F Y) d' (Y.own g):=by
    conv=>lhs;unfold wl
    rw [hf,A4 u9,ac]
   rwa [ew]
  |some x=>
   have ew:wl Y (F Y) (d'+1) g=x::wl Y (F Y) d' (step Y (F Y) g):=by
    conv=>lhs;unfold wl
    rw [hf,A4 u9,ac]
   have go:∀(S1:Ss Y) (B1:oj Str),S1.stk=(m,g)::r->SOk n0 S1->Bg S1 B1->(rest S1).length<=k->(∃o,yet S1 x=u_ o)->
     ∃j p don' B',nx S1 j=[r:don'++ [(m,p)]]/\(wl Y (F Y) d' (step Y (F Y) g)).foldl (vis Y w k) (B1,S1.don.map (·.1))=(B',don'.map (·.1))/\(∀x,x∈B'↔x∈r.map (·.1)∨x∈(don'++ [(m,p)]).map (·.1)):=by
    rintro S1 B1 ag ad ak aq ⟨o,hy⟩;have hF:F Y x=o:=by
     erw[S1,am,U];cases(show am=(m,g)::r from ag)
     exact yet_F h ad hf ac hy
    have en:nxt S1=⟨(m,step Y (F Y) g)::r,S1.don⟩:=by
     rw [nxt_yet ag hf ac hy];cases o with
     |some a=>
      have e:step Y (F Y) g=Y.tk g a:=by
       unfold step;rw [hf,A4 u9,ac];simp only [hF]
      rw [e]
     |none=>
      have e:step Y (F Y) g=Y.stuck g x:=by
       unfold step;rw [hf,A4 u9,ac];simp only [hF]
      rw [e]
    have O:=nxt_ok h ad;rw [en] at O;obtain⟨j,p,don',B',h1,h2,h3⟩:=al (Y.lft (step Y (F Y) g)) () [(m,step Y (F Y) g)::r:S1.don] m _ r B1 d' rfl O (λy=>by rw [ak y];unfold jE;rw [ag];exact TY) (uI (rest_le λy hy=>by unfold jE at hy⊢;rwa [ag] at hy) aq) (uh _) ()
    exact⟨j+1,p,don',B',by rwa [Xu,en],h2,h3⟩
   rw [ew,List.foldl_cons];cases hy:yet S x with
   |some o=>
    have hv:vis Y w k (B,S.don.map (·.1)) x=(B,S.don.map (·.1)):=by
     refine vis_in ?_ k;unfold yet at hy;by_cases cx:x∈S.stk.map (·.1)
     ·exact .inr ((hB x).mpr (ve _ cx))
     ·rw [A4 cx] at hy;cases hg:Y.g0 x with
      |none=>exact .inl rfl
      |some gx=>
       rw [hg] at hy;simp only at hy;cases ah:Y2 S.don x with
       |none=>rw [ah] at hy;cases hy
       |some gd=>exact .inr ((hB x).mpr (uJ _ (Ab.mpr [_:zT ah:1])))
    rw [hv];exact go S B aa hok hB ae [o:hy]
   |none=>
    erw[J3 hy,n1,[g',af],n2];have en:=nxt_in aa hf ac hy af;have O:=nxt_ok h hok;rw [en] at O;have aA:(rest (⟨(x,g')::(m,g)::r,S.don⟩:Ss Y)).length<(rest S).length:=by
     refine jy (m:=x) (h.gn x g' af) ?_ ?_ ?_
     ·simp only [ur,uH];exact[n1:n2]
     ·simp
     ·intro y hy;simp only [ur,uH] at hy⊢;refine[λz=>hy.1 (ue _ ?_):hy.2];rwa [aa] at z
    obtain⟨k',rfl⟩:∃k',k=k'+1:=[k-1:()]
    obtain⟨j,p,U,B1,h1,h2,h3⟩:=ap k' (V0 _) Y.M [(x,g')::(m,g)::r:S.don] x g' ((m,g)::r) (B++ [x]) Y.M rfl O (λy=>by
      unfold jE;rw [vM,vg,or_comm,hB y];unfold jE;rw [aa];exact(uz (a:=y) (b:=x) (l:=((m,g)::r).map (·.1)++S.don.map (·.1))).symm) () (h.l0 x g' af) (h.l0 x g' af)
    have au:¬((Y.g0 x).isNone=v_∨x∈B):=by
     rintro(z|z)
     ·rw [af] at z;cases z
     ·rcases Aa.mp ((hB x).mp z) with z|z
      ·exact n1 z
      ·exact n2 z
    have hv:vis Y w (k'+1) (B,S.don.map (·.1)) x=(B1,(U++ [(x,p)]).map (·.1)):=by
     conv=>lhs;unfold vis
     rw [A4 au];dsimp only;rw [hw x g' af,h2,Vc]
     rfl
    rw [hv];have ad:=nx_ok h O j;rw [h1] at ad;have ak:Bg (⟨(m,g)::r,U++ [(x,p)]⟩:Ss Y) B1:=λy=>by
     rw [h3 y];unfold jE;exact List.mem_append.symm
    have sub:∀y∈jE S,y∈jE (⟨(m,g)::r,U++ [(x,p)]⟩:Ss Y):=λy aw=>by
     have:=nx_nms (S:=S) (j:=0) aw (j+1);rwa [G_,Xu,en,h1] at this
    have ax:x∈(U++ [(x,p)]).map (·.1):=by rw [Vc];exact uJ _ uf
    have ay:∃o,yet (⟨(m,g)::r,U++ [(x,p)]⟩:Ss Y) x=u_ o:=by
     unfold yet;split
     ·exact⟨0⟩
     ·rw [af];simp only;erw[Ab.mp ax,q,hq,e];cases ah:Y2 (U++ [(x,p)]) x with
      |some gd=>exact⟨0⟩
      |none=>
       exfalso;unfold Y2 at ah;rw [Uo,U4] at ah;exact ah q hq (ub e)
    erw[go _ B1 rfl ad ak (uI (rest_le sub) ae) ay,j2,p2,ao,B2,f1,f2,f3];exact⟨1+j+j2,p2,ao,B2,by rwa [nx_add,rZ 1 j,Xu,en,h1],f2,f3⟩
end Sy
variable {g:Gp}{m:Str}
theorem wn_some (h:GI g)(O:ya g=u_ m):∃kd,yR g= .tup [.str kd,.str m]/\isHN kd=false:=by
 unfold ya at O;split at O
 ·rename_i k z e
  by_cases c:isHN k=v_
  ·rw [A5 c] at O;cases O
  ·rw [A4 c] at O;cases O;exact⟨k,e,by simpa using c⟩
 ·cases O
noncomputable def stkO (d:D):om Str:=match d with
 | .tup [.str k,.str m]=>if k="stuck" then u_ m else U_
 |_=>U_
theorem en_th {r:Rn}(h:ThS r.th)(k:enOf r=u_ e):ThS e:=by
 unfold enOf at k;by_cases c:QH r.th=v_
 ·rw [A5 c] at k;cases k
 ·rw [A4 c] at k;cases k;exact h
theorem beg_en {d:D}(k:(begP g d).en=u_ e):ThS e:=by
 unfold begP at k;split at k
 ·cases k;exact .inl ⟨0⟩
 ·cases O:Q1 d with
  |none=>rw [O] at k;cases k;exact .inl ⟨0⟩
  |some rs=>rw [O] at k;exact en_th (R0_sh (wn O).2) k
theorem take_en {d:D}(h:GI g)(U:g.en=U_)(ha:j8 d)(k:(yc g d).en=u_ e):ThS e:=by
 unfold yc at k;cases O:g.run with
 |none=>rw [O] at k;exact beg_en k
 |some p=>
  erw[p,rs,r];rw [O] at k;erw[h.run rs r O,h1,h2,h3,h4];exact en_th (ansS_sh h1 h2 (h4 U) ha) k
noncomputable def nmA (x:D):om Str:=match x with
 | .tup [.tup [.str kd,.str z],_]=>if isHN kd=v_ then U_ else u_ z
 |_=>U_
noncomputable def stkL (e:om D):oj Str:=(e.bind stkO).toList
noncomputable def kA (p:Gp):oj Str:=(QJ p).filterMap nmA++stkL p.en
theorem ths_nl {e:om D}(h:∀d,e=u_ d->ThS d):stkL e= []:=by
 cases e with
 |none=>rfl
 |some d=>
  unfold stkL;show(stkO d).toList= [];rcases h d rfl with⟨y,rfl⟩|⟨y,rfl,_⟩|⟨u,y,rfl,_⟩
  ·show(if("fault":Str)="stuck" then u_ y else U_).toList= []
   rw [A4 ()]
   rfl
  ·cases y with
   |str z=>
    show(if("said":Str)="stuck" then u_ z else U_).toList= []
    rw [A4 ()]
    rfl
   |_=>rfl
  ·rfl
section
variable {qs:oj (Str×D)}
theorem wl_asks (hq:Q0 qs):∀(k:Nat) {g:Gp},GI g->GA g->lftP g<=k->kA (itP qs k g)=(QJ g).filterMap nmA++(if g.en.isSome=v_ then stkL g.en else Sy.wl (SyP qs) (FP qs) k g)
 |k,g,h,ha,hl=>by
  cases U:g.en with
  |some e=>
   have hf:(SyP qs).fin g=true:=by show g.en.isSome=v_;rw [U];rfl
   have e0:itP qs k g=g:=Sy.Zl (Y:=SyP qs) hf k;rw [e0];unfold kA;rw [U]
   rfl
  |none=>
   have hf:(SyP qs).fin g=false:=by show g.en.isSome=V7;rw [U];rfl
   have ae:=Sy.Zw (Y:=SyP qs) (f:=FP qs) (Qq qs) hf;have ae:lftP (Sy.step (SyP qs) (FP qs) g)<lftP g:=ae;obtain⟨O,rfl⟩:∃O,k=O+1:=[k-1:()]
   erw[kQ hq (F_ok hq) h ha,h1,h2];have ih:=wl_asks hq O h1 h2 ()
   have e0:itP qs (O+1) g=itP qs O (Sy.step (SyP qs) (FP qs) g):=rfl;rw [e0,ih];have es:=step_eq (qs:=qs) g;rw [U] at es;simp only [UN,A4 u9] at es;have ac:∀{g2:Gp},(∀d,g2.en=u_ d->ThS d)->(if g2.en.isSome=v_ then stkL g2.en else Sy.wl (SyP qs) (FP qs) O g2)=Sy.wl (SyP qs) (FP qs) O g2:=by
    intro g2 ht;cases af:g2.en with
    |none=>rfl
    |some d=>
     have ad:(SyP qs).fin g2=true:=by show g2.en.isSome=v_;rw [af];rfl
     rw [Sy.wl_fin (Y:=SyP qs) ad];rw [af] at ht;exact ths_nl ht
   show _=(QJ g).filterMap nmA++Sy.wl (SyP qs) (FP qs) (O+1) g;cases hw:ya g with
   |none=>
    rw [hw] at es;refine Hn ?_ (congrArg ((QJ g).filterMap nmA++ ·) (Sy.wl_own (Y:=SyP qs) (f:=FP qs) (k:=O) hf hw).symm);have es:Sy.step (SyP qs) (FP qs) g=ownP qs g:=es;erw[Xv (qs:=qs) h U hw,rs,r,kd,z,ag,ah,aa,_,e];have hp:yR g= .tup [.str kd,.str z]:=by
     unfold yR;rw [ag];show zc r.th=_;rw [ah]
     rfl
    rw [es,e,(JJ ha U _).1,GS];have en: [D.tup [yR g,j3 qs kd z]].filterMap nmA= []:=by
     have n1:nmA (.tup [yR g,j3 qs kd z])=none:=by
      rw [hp];show(if isHN kd=v_ then U_ else u_ z)=U_
      rw [A5 aa]
     rw [vh,n1]
     rfl
    rw [en,uW,show(SyP qs).own g=yc g (j3 qs kd z) from e]
    exact congrArg (_++ ·) (ac λd hd=>take_en h U (.inr (Ka hq z aa).1) hd)
   |some x=>
    rw [hw] at es;dsimp only at es;refine Hn ?_ (congrArg ((QJ g).filterMap nmA++ ·) (Sy.wl_want (Y:=SyP qs) (f:=FP qs) (k:=O) hf hw).symm);erw[wn_some h hw,kd,hp,aa];cases hF:FP qs x with
    |some a=>
     rw [hF] at es;dsimp only at es;rw [es,(JJ ha U _).1,GS];have en: [D.tup [yR g,a.getD .non]].filterMap nmA= [x]:=by
      have n1:nmA (.tup [yR g,a.getD .non])=u_ x:=by
       rw [hp];show(if isHN kd=v_ then U_ else u_ x)=u_ x
       rw [aa,A4 u9]
      rw [vh,n1]
      rfl
     rw [en,Ud];exact congrArg (λl=>(QJ g).filterMap nmA++([x]++l)) (ac λd hd=>take_en h U (F_ok hq _ _ hF) hd)
    |none=>
     rw [hF] at es;dsimp only at es;rw [es];have ad:(SyP qs).fin (stkP g x)=true:=rfl;rw [Sy.wl_fin (Y:=SyP qs) ad]
     rfl
noncomputable def wN (qs:oj (Str×D)) (m:Str):oj Str:=match g0D m (qG qs m) with
 |none=> []
 |some s=>kA (Sy.it (SyP qs) (Sy.F (SyP qs)) 302 s)
end
end K23
namespace K23
open PySem L2 PyProof.Rows
theorem asksP_eq (p:Gp):asksP p= .tup (QJ p):=by
 unfold asksP QJ;cases p.run with
 |none=>rfl
 |some q=>rfl
noncomputable def AskF (x:D):Prop:=∃kd z a,x= .tup [.tup [.str kd,.str z],a]/\(isHN kd=v_∨kd="thing"∨kd="rule")
variable {g:Gp}{m:Str}
theorem wn_kind {kd:Str}(h:GI g)(he:g.en=U_)(O:yR g= .tup [.str kd,.str m]):isHN kd=v_∨kd="thing"∨kd="rule":=by
 unfold yR at O;cases hr:g.run with
 |none=>
  rw [hr] at O;simp only at O;injection O with O
  injection O with O _
  injection O with O
  exact .inr (.inr O.symm)
 |some p=>
  erw[p,rs,r];rw [hr] at O;erw[h.run rs r hr,_,_,ht,U];have U:=U he;rcases ht with⟨z,e⟩|⟨e1,e,_⟩|⟨u,z,e,hT,hu⟩
  ·rw [e] at U;exact absurd (show decide (("fault":Str)="asks")=v_ from U) ()
  ·rw [e] at U;exact absurd (show decide (("said":Str)="asks")=v_ from U) ()
  ·simp only [e] at O;have O:(D.tup [.str u,.str z])= .tup [.str kd,.str m]:=O;cases O;rcases hu with rfl|⟨rfl|rfl,_⟩
   ·exact .inl ()
   ·exact .inr (.inl rfl)
   ·exact .inl ()
section
variable {qs:oj (Str×D)}
theorem step_F (hq:Q0 qs)(h:GI g)(ha:GA g)(hF:∀x∈QJ g,AskF x):∀x∈QJ (Sy.step (SyP qs) (FP qs) g),AskF x:=by
 have aa:∀{d:D},g.en=U_->(∃kd z,yR g= .tup [.str kd,.str z])->∀x∈QJ (yc g d),AskF x:=by
  intro d O ⟨kd,z,e⟩ x U;rw [(JJ ha O d).1] at U;rcases Aa.mp U with U|U
  ·exact hF x U
  ·cases A9.mp U;exact⟨kd,z,d,by rw [e],wn_kind h O e⟩
 rw [step_eq];cases O:g.en with
 |some d=>exact hF
 |none=>
  simp only [UN,A4 u9];cases hw:ya g with
  |none=>
   erw[Xv (qs:=qs) h O hw,rs,r,k,z,ac,ad,hk,_,e];show∀x∈QJ (ownP qs g),_;rw [e];refine aa O [k:z:?_];unfold yR;rw [ac];show zc r.th=_;rw [ad]
   rfl
  |some m=>
   simp only;erw[wn_some h hw,kd,hp,hk];cases FP qs m with
   |some a=>exact aa O [kd:m:hp]
   |none=>exact hF
theorem it_F (O:Q0 qs):∀(k:Nat) {g:Gp},GI g->GA g->(∀x∈QJ g,AskF x)->∀x∈QJ (itP qs k g),AskF x
 |0,g,h,ha,t=>t
 |k+1,g,h,ha,t=>by
  erw[kQ O (F_ok O) h ha,h1,h2];exact it_F O k h1 h2 (step_F O h ha t)
theorem asks_F (U:Q0 qs)(O:g0D m (qG qs m)=u_ g)(k:Nat):∀x∈QJ (itP qs k g),AskF x:=
 it_F U k (Wq U O).1 (ga_g0 O).1 (λx hx=>by rw [(ga_g0 O).2] at hx;cases hx)
theorem it_fin302 {s:Gp}(O:g0D m (qG qs m)=u_ s):(itP qs 302 s).en.isSome=true:=Sy.it_end (Y:=SyP qs) (Qq qs) 302 s ((Qq qs).l0 m s O)
theorem wN_wl (hq:Q0 qs){s:Gp}(O:g0D m (qG qs m)=u_ s):wN qs m=Sy.wl (SyP qs) (Sy.F (SyP qs)) 302 s:=by
 unfold wN;rw [O];have:=wl_asks hq 302 (Wq hq O).1 (ga_g0 O).1 ((Qq qs).l0 m s O);rw [(ga_g0 O).2,List.filterMap_nil,rF] at this;refine Hn (show kA (Sy.it (SyP qs) (Sy.F (SyP qs)) 302 s)=_ from this) ?_
 cases U:s.en with
 |none=>exact A4 u9
 |some e=>
  have hf:(SyP qs).fin s=true:=by show s.en.isSome=v_;rw [U];rfl
  rw [Sy.wl_fin (Y:=SyP qs) hf];refine(A5 rfl).trans ?_;refine ths_nl λd hd=> ?_;cases hd;unfold g0D at O;split at O
  ·split at O
   ·cases O
   ·split at O
    ·cases O;cases U
    ·cases O;exact beg_en U
  ·cases O
end
inductive sp_asked2 (vs:List V) (H:Hp) (Q:VK) (E_:XK):Prop
 |mk (v:V) (p:Gp) (_:vs= [v]) (_:Is H (xg p) v) (_:∀x∈QJ p,AskF x) (_:∃e,p.en=u_ e/\EnS e) (_:(QJ p).length<=1000) (_:∀L H',Same H H'->H' L=u_ (.lst ((kA p).map V.str))->H L=U_->Q (.ref L) H')
section
variable {P:o9}{w:og}{K:o0}{mg:Str->om o6}{base:o8}{a:Ad}{g:Ga}
theorem ok_asked2 (T:Tx K mg a):#[K,1,a.je,a.jc,["run"],sp_asked2]:=by
 exists 9,T.g_law_asked_names,YQ
 erw[h,v,p,rfl,hv,hF,[e,ah,hE],hl,k];have hs:=uB;rw [fullP_eq,asksP_eq] at hv;erw[hv,q3,w3,rfl,ak,x3,r3,rfl,iA,x4,r4,rfl,iE,ap];cases(show r4= [] from ap)
 have eE:endP p=e:=by unfold endP;rw [ah];rfl
 rw [eE] at iE;erw[iA,qA,wA,rfl,ad,al];exists _,%[#[ZB,2,["ask","answer"],(2),[],(1),12,YQ.nd,rfl,gQ rfl,lcsN (qj Q6) ["run","found"],rfl,#[ZN,#[qH,qF,pv 0,ql]],(λ_ _ _ _ _ _=>#[pg_tupK,1,K,3,(2),1,rfl,rfl,yD #[qT,(0),(show Vp (["ask","answer"]:oj Str) by decide+kernel)] (yD #[qT,(1),(show Vp (["ask","answer"]:oj Str) by decide+kernel)] ZP),_,_]),(λ_ _ _ _ _ _=>(@kG _ _ _ #[zy,#[qq,Qs,#[qH,#[kW,1,K,rfl],pv 0,ql],qm],#[Jo,#[qq,Qs,#[qH,#[kW,1,K,rfl],pv 0,ql],qm]]].pt)),(λ_ _ _ _ _ _=>#[qH,#[kW,1,K,rfl],pv 0,ql]),_,_,_],#[qI,#[qq,Qs,#[qH,qF,#[qH,qF,pv 0,ql],ql],qm],%[|#[qV,#[jh,uR,vm,vn,Ya,pv 1,#v[#[qH,qF,#[qH,qF,pv 0,ql],ql]]]]],qv]|#[qt,pv 1]]
 exists 7
 exists 8,N1,q1;exists 0,q3,_,_,0,1,SqT.of ak,Qm (j:=0) rfl;refine⟨qA,wA,1,SqT.of ad,λ_ A0 aa=> ?_⟩;have ln:=al.length;have aq:∀H',Same H H'->H' A0=u_ (.lst (((QJ p).filterMap nmA).map V.str))->N1 [u_ (.ref q3),u_ (.ref A0)] H':=by
  intro H2 s2 ae;refine q1 _ _ ?_;exists 8,N2,q2;have am:=s2 _ _ ak;have af:=iE.mono s2.tk;have fin:∀H',Same H H'->H' A0=u_ (.lst ((kA p).map V.str))->N2 [u_ (.ref q3),u_ (.ref A0)] H':=λH' s' h'=>q2 _ _ [0:k A0 H' s' h' aa];have hB:∃qe xs kk,x4=V.ref qe/\H2 qe=u_ (.tup (V.str kk::xs))/\((kk="stuck"/\∃z,xs= [V.str z]/\stkL p.en= [z])∨(kk≠"stuck"/\stkL p.en= [])):=by
   rw [ah];rcases hE with⟨z,rfl⟩|⟨y,rfl,_⟩|⟨z,rfl⟩
   ·erw[af,qe,we,rfl,O,y1,r1,rfl,[rfl,_],_];exact⟨qe,_,0,O,.inr ⟨(),ths_nl λd hd=>by cases hd;exact .inl ⟨0⟩⟩⟩
   ·erw[af,qe,we,rfl,O,y1,r1,rfl,[rfl,_],_];refine⟨qe,_,0,O,.inr [():?_]⟩
    cases y with
    |str z=>
     show(if("said":Str)="stuck" then u_ z else U_).toList= []
     rw [A4 ()]
     rfl
    |_=>rfl
   ·erw[af,qe,we,rfl,O,y1,r1,rfl,[rfl,_],y2,r2,rfl,[rfl,_],h12];cases(show r2= [] from h12)
    refine⟨qe,_,0,O,.inl ⟨1,z,1,?_⟩⟩;show(if("stuck":Str)="stuck" then u_ z else U_).toList= [z]
    rw [A5 rfl]
    rfl
  erw[hB,qe,xs,kk,rfl,O,au];exists 0,q3,_,_,0,1,SqT.of am,Qm (j:=1) rfl,qe,_,_,0,1,SqT.of O,Qm (j:=0) rfl,1,0;rcases au with⟨rfl,z,rfl,ag⟩|⟨aw,ag⟩
  ·refine iteB (ub rfl) ?_;refine⟨0,.inl [1:_:SqL.of ae],0,q3,_,_,0,1,SqT.of am,Qm (j:=1) rfl,qe,_,_,0,1,SqT.of O,Qm (j:=1) rfl,A0,_,0,1,ae,?_,?_⟩
   ·rw [ua];have:=FG nmA (QJ p);omega
   ·refine fin _ (λb ob e=>by rw [qi (qk e aa)];exact s2 _ _ e) ?_
    rw [qh];unfold kA;rw [ag,Vc]
    rfl
  ·refine iteN (uc (λz=>aw (V.str.inj z))) (fin H2 s2 ?_);unfold kA;rwa [ag,uW]
 refine⟨(QJ p).length,λi σ ys H'=>(∃u1 u2,σ= [u1,u2])/\ys=(((QJ p).take i).filterMap nmA).map V.str/\Same H H',(),[[U_:U_:1]:1:qg aa _],?_,?_⟩
 ·rintro i σ ys H1 hi ⟨⟨u1,u2,rfl⟩,rfl,s1⟩ U aF;have ax:i<wA.length:=by omega
  have ao:=s1 _ _ ad;exists ⟨wA,wA[i],SqT.of ao,ug ax⟩;rintro x H2 ⟨rfl,hx⟩;have e0:=hx wA (SqT.of ao);erw[al.get (ug hi),v,e1,e2];rw [e0] at e1;cases e1;have et:(QJ p).take (i+1)=(QJ p).take i++ [(QJ p)[i]]:=by rw [uY,ug hi];rfl
  erw[hF _ (v9 hi),kd,z,an,ed,ay];have i2:=e2.mono s1.tk;rw [ed] at i2 et;erw[i2,t6,w6,rfl,aA,x7,r7,rfl,i7,x8,r8,rfl,i8,aB];cases(show r8= [] from aB)
  erw[i7,t7,w7,rfl,ac,x9,r9,rfl,[rfl,aG],xa,ra,rfl,[rfl,aE],aC];cases(show ra= [] from aC)
  exists t6,0,SqT.of aA,1;exists _,0,_,0,1;exists 0,t7,_,_,0,1,SqT.of ac,Qm (j:=0) rfl,1,0;have aD:isHN kd=V7->nmA (.tup [.tup [.str kd,.str z],an])=u_ z:=λh=>by
   show(if isHN kd=v_ then U_ else u_ z)=u_ z
   rw [h,A4 u9]
  have put:∀h:isHN kd=V7,((((QJ p).take i).filterMap nmA).map V.str)++ [V.str z]=(((QJ p).take (i+1)).filterMap nmA).map V.str:=λh=>by
   rw [et,GS,Vc,vh,aD h]
   rfl
  by_cases c1:kd="thing"
  ·have hk:isHN kd=false:=by rw [c1];decide+kernel
   refine iteB (ub (by rw [c1])) (iteT ?_)
   refine⟨0,t7,_,_,0,1,SqT.of ac,Qm (j:=1) rfl,U,[_:0],put hk,λb ob e=> ?_⟩;rw [qi (qk e aa)];exact s1 _ _ e
  ·refine iteN (uc (λz=>c1 (V.str.inj z))) ?_;exists 0,t7,_,_,0,1,SqT.of ac,Qm (j:=0) rfl,1,0;by_cases c2:kd="rule"
   ·have hk:isHN kd=false:=by rw [c2];decide+kernel
    refine iteB (ub (by rw [c2])) ?_
    refine⟨0,t7,_,_,0,1,SqT.of ac,Qm (j:=1) rfl,U,[_:0],put hk,λb ob e=> ?_⟩;rw [qi (qk e aa)];exact s1 _ _ e
   ·refine iteN (uc (λz=>c2 (V.str.inj z))) ⟨U,[_:0],?_,s1⟩;have hk:isHN kd=true:=by
     rcases ay with h|h|h
     ·exact h
     ·exact absurd h c1
     ·exact absurd h c2
    rw [et,GS,vh];have n0:nmA (.tup [.tup [.str kd,.str z],an])=none:=by
     show(if isHN kd=v_ then U_ else u_ z)=U_
     rw [A5 hk]
    rw [n0];show _=(TL nmA ((QJ p).take i)++ []).map V.str;rw [uW]
 ·rintro σ ys H1 ⟨_,rfl,s1⟩ U;rw [vv] at U;exact[[wA:SqT.of (s1 _ _ ad):()]:aq H1 s1 U]
end
theorem asks_len {p:Gp}(h:GI p):(QJ p).length<=1000:=by
 have h1:=h.ra.2.2;unfold QJ;rw [uu];cases O:p.run with
 |none=>show _+0<=1000;omega
 |some q=>
  erw[q,rs,r];have h2:=(h.run rs r O).2.1;have h3:=h2.gs.2.2;have h4:=h2.n;show _+r.gs.length<=1000;omega
noncomputable abbrev visP (qs:oj (Str×D)):=Sy.vis (SyP qs) (wN qs)
noncomputable def Iv (qs:oj (Str×D))(c:Nat)(st:oj Str×oj Str):Prop:=st.1.Nodup/\(∀y∈st.1,y∈qs.map (·.1))/\st.2.length+c<=st.1.length
section
variable {qs:oj (Str×D)}
theorem k9 {k c:Nat}(U:∀st x,Iv qs c st->Iv qs c (visP qs k st x)/\∀y∈st.1,y∈(visP qs k st x).1):∀(l:oj Str) (st:oj Str×oj Str),Iv qs c st->Iv qs c (l.foldl (visP qs k) st)/\∀y∈st.1,y∈(l.foldl (visP qs k) st).1
 | [],st,h=>[h:λy O=>O]
 |x::l,st,h=>by
  erw[U st x h,h1,h2];erw[k9 U l _ h1,h3,h4];exact[h3:λy O=>h4 y (h2 y O)]
theorem vis_ok:∀(k c:Nat) (st:oj Str×oj Str) (x:Str),Iv qs c st->Iv qs c (visP qs k st x)/\∀y∈st.1,y∈(visP qs k st x).1
 |0,c,st,x,h=>[h:λy O=>O]
 |k+1,c,st,x,h=>by
  unfold visP Sy.vis;by_cases U:((SyP qs).g0 x).isNone=v_∨x∈st.1
  ·rw [A5 U];exact[h:λy O=>O]
  ·rw [A4 U];dsimp only;have hx:x∉st.1:=λz=>U (.inr z);obtain⟨s,hs⟩:∃s,(SyP qs).g0 x=u_ s:=by
    cases e:(SyP qs).g0 x with
    |none=>exact absurd (.inl (by rw [e];rfl)) U
    |some s=>exact[s:1]
   have h0:Iv qs (c+1) (st.1++ [x],st.2):=by
    refine⟨(T1 (l₁:= [x]) (l₂:=st.1)).nodup_iff.mp (List.nodup_cons.mpr [hx:h.1]),λy O=> ?_,by have:=h.2.2;show st.2.length+(c+1)<=(st.1++ [x]).length;rw [uu,vo];omega⟩
    rcases Aa.mp O with O|O
    ·exact h.2.1 y O
    ·cases A9.mp O;exact(Qq qs).gn x s hs
   erw[k9 (vis_ok k (c+1)) (wN qs x) _ h0,h1,h2];unfold visP at h1 h2;generalize (wN qs x).foldl (Sy.vis (SyP qs) (wN qs) k) (st.1++ [x],st.2)=t at h1 h2⊢;refine[[h1.1:h1.2.1:?_]:λy O=>h2 y (ve _ O)];have:=h1.2.2;show(t.2++ [x]).length+c<=t.1.length;rw [uu,vo];omega
noncomputable def unb (qs:oj (Str×D))(B:oj Str):Nat:=((qs.map (·.1)).filter λy=>decide (y∉B)).length
theorem unb_le {B O:oj Str}(h:∀y∈B,y∈O):unb qs O<=unb qs B:=Sy.ZX (λx U=>by
 simp only [uH] at U⊢;exact λz=>U (h x z)) _
variable {x:Str}
theorem unb_lt {B:oj Str}(U:x∈qs.map (·.1))(hn:x∉B):unb qs (B++ [x])<unb qs B:=
 Sy.jy U (ub hn) (uc λz=>z (uJ _ uf)) λy O=>by
  simp only [uH] at O⊢;exact λz=>O (ve _ z)
end
noncomputable def kB (B:oj Str):oj (Str×V):=B.map λx=>(x,V.bl v_)
theorem kB_in {B:oj Str}:(valV (inrK (kB B)) (V9 m)).isSome=decide (m∈B):=by
 have U:(kB B).map (·.1)=B:=by unfold kB;rw [uK];exact V4 B
 by_cases c:m∈B
 ·have O:(kB B).map (·.1)=(B.map λx=>(x,D.bl v_)).map (·.1):=by rw [U,uK];exact(V4 B).symm
  have hI:∀l:oj Str,L2.IsL (λ_=>U_) ((l.map λx=>(x,D.bl v_)).map (·.2)) ((kB l).map (·.2)):=λl=>by
   induction l with
   |nil=>rfl
   |cons x r ih=>exact⟨_,0,1,ih⟩
  obtain⟨l1,_⟩:=Wx (z:=m) O (hI B) (by rw [uK];exact Ab.mpr [m:c:1])
  rw [l1,ub c]
  rfl
 ·rw [kP (by rwa [U]),uc c]
  rfl
inductive wI (n:Nat) (vs:List V) (H:Hp) (Q:VK) (E_:XK):Prop
 |mk (rd bd ld:Addr) (m:Str) (qs rr:List (Str×D)) (B Z:List Str) (k:Nat) (_:n=k+1) (_:vs= [.ref rd,.str m,.ref bd,.ref ld]) (_:Q0 qs) (_:jd H rd rr) (_:RunsOk qs rr (qs.map (·.1))) (_:rd≠bd) (_:H bd=u_ (.dK (inrK (kB B)))) (_:H ld=u_ (.lst (Z.map V.str))) (_:Iv qs 0 (B,Z)) (_:unb qs B<=k) (_:∀H',Kp [bd,ld] H H'->H' bd=u_ (.dK (inrK (kB (visP qs n (B,Z) m).1)))->H' ld=u_ (.lst ((visP qs n (B,Z) m).2.map V.str))->Q .non H')
section
variable {P:o9}{w:og}{K:o0}{mg:Str->om o6}{base:o8}{a:Ad}{g:Ga}
theorem ok_lmetS (T:Tx K mg a)(n:Nat)(Z0:FnOk P w K mg base CX0 (2+n) a.Jw a.JT ["runs","name","begun","left"] (wI n)):FnOk P w K mg base CX0 (2+n+1) a.Jw a.JT ["runs","name","begun","left"] (wI (n+1)):=by
 have zH:=#[ok_asked2,T];exists 9,T.g_law_met,zG
 erw[h,rd,bd,ld,m,qs,rr,B,Z,k,h0,rfl,hq,hR,ah,aq,U,ak,hI,aM,kk];cases h0;have hs:=uB;exists _,%[@qI _ _ _ _ _ _ _ _ #[zy,#[Jz,#[Jn,pv 1,pv 0]],#[Jo,#[Jz,#[w8,pv 1,pv 2]]]].pt %[|ps_retN] qv,#[YH,pv 2,pv 1,Ja],#[YV,#[X7,#[qw,zH,T.g_law_asked_names,#v[#[Qr,pv 1]]]],#[qT,(4),zG.nd],%[|#[qV,#[qw,Z0,T.g_law_met,#v[pv 0,pv 4,pv 2,pv 3]]]]]|#[qV,#[jh,uR,vm,vn,Ya,pv 3,#v[pv 1]]]]
 exists 7
 exists 8,N1,q1;erw[id hR,vr,ae,al,au];have aw:∀(c:o3) (ks:oj (Key×V)),H c=u_ (.dK ks)->c≠ld:=λc ks hc z=>by rw [z,ak] at hc;cases hc
 have mem:m∈rr.map (·.1)↔∃s,g0D m (qG qs m)=u_ s:=by
  rw [ah.keys];constructor
  ·rintro⟨_,h⟩;cases e:g0D m (qG qs m) with
   |none=>exact absurd e h
   |some s=>exact[s:1]
  ·rintro⟨s,e⟩;exact⟨(Qq qs).gn m s e,by rw [e];intro z;cases z⟩
 have stay:((SyP qs).g0 m=U_∨m∈B)->Q .non H:=λh=>by
  have hv:visP qs (n+1) (B,Z) m=(B,Z):=Sy.vis_in h (n+1);refine kk H (Kp.of (Same.refl _)) ?_ ?_
  ·rwa [hv]
  ·rwa [hv]
 exists 0,0,rd,0,DGet.k (k:=V9 m) ae;exists 0;by_cases cm:m∈rr.map (·.1);rotate_left
 ·rw [kP (z:=m) (by rw [al];exact cm)]
  refine iteB rfl (iteT (stay (.inl ?_)));cases e:g0D m (qG qs m) with
  |none=>exact e
  |some s=>exact absurd (mem.mpr [s:e]) cm
 erw[mem.mp cm,sg,O];erw[Wx al au cm,l1,l2];rw [l1];refine iteN rfl ?_;exists 0,0,bd,0,DGet.k (k:=V9 m) U,0;rw [kB_in];by_cases cb:m∈B
 ·exact iteB (ub cb) (stay (.inr cb))
 refine iteN (uc cb) (q1 _ _ ?_);have am:m∈qs.map (·.1):=(Qq qs).gn m sg O;have few:B.length<=60:=by
  have:=KL hI.1 hI.2.1;rw [ua] at this;exact uI this hq.2.2
 have aN:=unb_lt am cb;obtain⟨n',rfl⟩:∃n',n=n'+1:=[n-1:()]
 exists 8,N2,q2;refine⟨0,0,bd,0,DPut.k (k:=V9 m) U (by unfold inrK kB;rw [ua,ua];omega),q2 _ _ ?_⟩
 have ax:putK (inrK (kB B)) (V9 m) (V.bl v_)=inrK (kB (B++ [m])):=by
  rw [Zy _ (kP (by unfold kB;rw [uK];intro z;exact cb (by simpa using z)))]
  unfold inrK kB;rw [Vc,Vc]
  rfl
 rw [ax];have K1:Kp [bd,ld] H (upd H bd (.dK (inrK (kB (B++ [m]))))):=Kp.updD U uf;have aa:upd H bd (.dK (inrK (kB (B++ [m])))) bd=u_ (.dK (inrK (kB (B++ [m])))):=qh;have ay:bd≠ld:=aw bd _ U;have ac:upd H bd (.dK (inrK (kB (B++ [m])))) ld=u_ (.lst (Z.map V.str)):=by rwa [qi ay.symm]
 generalize upd H bd (.dK (inrK (kB (B++ [m]))))=H1 at K1 aa ac⊢;have aA:rd∉ [bd,ld]:=λz=>by
  simp only [uz,uD,uM] at z;rcases z with z|z
  ·exact aq z
  ·exact aw rd _ ae z
 have aF:∀{H':Hp},Kp [bd,ld] H H'->jd H' rd rr:=λk'=>⟨vr,k'.kept _ _ ae aA,al,au.mono k'.tk⟩;exists 8,N3,q3;have aB:=K1.kept _ _ ae aA;have gi:=itP_gi hq O 302;have aC:=ah.dat m sg am O;rw [aC] at l2;have ag:=it_fin302 O;have aG:∃e,(itP qs 302 sg).en=u_ e/\EnS e:=by
  cases he:(itP qs 302 sg).en with
  |none=>rw [he] at ag;cases ag
  |some e=>exact[e:1:gi.1.en e he]
 have aH:kA (itP qs 302 sg)=wN qs m:=by unfold wN;rw [O]
 refine⟨0,0,rd,0,(by rw [<-l1];exact DGet.k (k:=V9 m) aB),_,itP qs 302 sg,1,l2.mono K1.tk,asks_F hq O 302,aG,asks_len gi.1,λL H2 s2 hL af=> ?_⟩
 rw [aH] at hL;exists L,1,[_:SqL.of hL];have aI:L∉ [bd,ld]:=λz=>by
  simp only [uz,uD,uM] at z;rcases z with z|z
  ·rw [z,aa] at af;cases af
  ·rw [z,ac] at af;cases af
 have aD:Iv qs 1 (B++ [m],Z):=by
  refine⟨(T1 (l₁:= [m]) (l₂:=B)).nodup_iff.mp (List.nodup_cons.mpr [cb:hI.1]),λy hy=> ?_,by have:=hI.2.2;show Z.length+1<=(B++ [m]).length;rw [uu,vo];have:Z.length+0<=B.length:=this;omega⟩
  rcases Aa.mp hy with hy|hy
  ·exact hI.2.1 y hy
  ·cases A9.mp hy;exact am
 let J_:Nat->L2.St->Hp->Prop:=λi σ H'=>(∃u4,σ= [u_ (.ref rd),u_ (.str m),u_ (.ref bd),u_ (.ref ld),u4])/\Kp [bd,ld] H H'/\H' L=u_ (.lst ((wN qs m).map V.str))/\∃t,t=((wN qs m).take i).foldl (visP qs (n'+1)) (B++ [m],Z)/\H' bd=u_ (.dK (inrK (kB t.1)))/\H' ld=u_ (.lst (t.2.map V.str))
 refine XS (xs:=(wN qs m).map V.str) J_ ⟨⟨0⟩,K1.trans (Kp.of s2),hL,0,s2 _ _ aa,s2 _ _ ac⟩ (λi σ H' _ h=>SqL.of h.2.2.1) ?_ ?_
 ·rintro i x σ H3 hx ⟨⟨u4,rfl⟩,K3,aE,t,rfl,ao,ad⟩;rw [uE] at hx;cases ap:(wN qs m)[i]? with
  |none=>rw [ap] at hx;cases hx
  |some z=>
   rw [ap] at hx;cases(show V.str z=x from uF hx)
   erw[k9 (vis_ok (n'+1) 1) ((wN qs m).take i) _ aD,f1,f2];have et:(wN qs m).take (i+1)=(wN qs m).take i++ [z]:=by rw [uY,ap];rfl
   refine⟨0,0,0,0,rd,bd,ld,z,qs,rr,_,_,n',1,1,hq,aF K3,ah,aq,ao,ad,[f1.1:f1.2.1:Nat.le_of_succ_le f1.2.2],?_,λH4 K4 aJ aK=> ?_⟩
   ·have:=unb_le (qs:=qs) f2;have h5:unb qs (B++ [m])<=n':=by omega
    exact uI this h5
   ·refine⟨⟨0⟩,K3.trans K4,K4.kept _ _ aE aI,0,?_,?_⟩
    ·rwa [et,TX]
    ·rwa [et,TX]
 ·rintro σ H3 ⟨⟨u4,rfl⟩,K3,aE,t,ht,ao,ad⟩;refine q3 _ _ ?_;rw [ua,vv] at ht;erw[k9 (vis_ok (n'+1) 1) (wN qs m) _ aD,f1,f2];rw [<-ht] at f1;have ft:t.1.length<=60:=by
   have:=KL f1.1 f1.2.1;rw [ua] at this;exact uI this hq.2.2
  refine⟨0,.inl [1:_:SqL.of ad],0,ld,_,0,1,ad,(by rw [ua];have:=f1.2.2;omega),?_⟩
  have aL:¬(((SyP qs).g0 m).isNone=v_∨m∈(B,Z).1):=by
   rintro(z|z)
   ·rw [show(SyP qs).g0 m=u_ sg from O] at z
    cases z
   ·exact cb z
  have hv:visP qs (n'+1+1) (B,Z) m=(t.1,t.2++ [m]):=by
   unfold visP
   conv=>lhs;unfold Sy.vis
   rw [A4 aL];dsimp only;rw [ht]
  refine kk _ (K3.trans ⟨λb ob e nb=>by rw [qi (λz=>nb (by rw [z];exact ue _ uf))];exact e,Tk.updL ad⟩) ?_ ?_
  ·rwa [hv,qi ay]
  ·rw [hv,qh,Vc]
   rfl
theorem ok_lmet (T:Tx K mg a):∀n,FnOk P w K mg base CX0 (2+n) a.Jw a.JT ["runs","name","begun","left"] (wI n)
 |0=>T.g_law_met.F.ok zG (λvs H Q E h=>by erw[h,_,_,_,_,_,_,_,_,_,h0,_];cases h0) (λcdv A outer s H vs Q E O h=>by erw[h,_,_,_,_,_,_,_,_,_,h0,_];cases h0)
 |n+1=>ok_lmetS T n (ok_lmet T n)
variable {qs:oj (Str×D)}
theorem met_vis (hq:Q0 qs){n:Str}{don:oj (Str×Gp)}(h:Dn qs n don):don.map (·.1)=(visP qs 61 ([],[]) n).2:=by
 cases O:g0D n (qG qs n) with
 |none=>
  rw [dn_none O h,show visP qs 61 ([],[]) n=([],[]) from Sy.vis_in (.inl O) 61]
  rfl
 |some g=>
  have e0:Sy.S0 (SyP qs) n=⟨[(n,g)],[]⟩:=by unfold Sy.S0;rw [show(SyP qs).g0 n=u_ g from O]
  have hok:=Sy.S0_ok (Y:=SyP qs) O;rw [e0] at hok;have hl:=(Qq qs).l0 n g O;have U:(Sy.rest #[Y,[(n,g)],[]]).length<=60:=by
   have:=vq (λm=>decide (m∉#[Y,[(n,g)],[]].stk.map (·.1))&&decide (m∉#[Y,[(n,g)],[]].don.map (·.1))) (SyP qs).ns;refine uI this ?_;show(qs.map (·.1)).length<=60;rw [ua];exact hq.2.2
  obtain⟨j,p,don',B',h1,h2,h3⟩:=Sy.dfs (Y:=SyP qs) (Qq qs) (n0:=n) (w:=wN qs) (λm s hs=>wN_wl hq hs) 60 302 [[(n,g)]:[]] n g [] [n] 302 rfl hok (λx=>by unfold Sy.jE;simp) U hl hl
  have hd:Dn qs n (don'++ [(n,p)]):=⟨j,by rwa [e0]⟩
  rw [dn_one h hd];have aa:¬(((SyP qs).g0 n).isNone=v_∨n∈(([],[]):oj Str×oj Str).1):=by
   rintro(z|z)
   ·rw [show(SyP qs).g0 n=u_ g from O] at z
    cases z
   ·cases z
  have hv:visP qs 61 ([],[]) n=(B',don'.map (·.1)++ [n]):=by
   unfold visP;show Sy.vis (SyP qs) (wN qs) (60+1) ([],[]) n=_
   conv=>lhs;unfold Sy.vis
   rw [A4 aa];dsimp only;rw [wN_wl hq O];have h2:(Sy.wl (SyP qs) (Sy.F (SyP qs)) 302 g).foldl (Sy.vis (SyP qs) (wN qs) 60) ([]++ [n],[])=(B',don'.map (·.1)):=h2;rw [h2]
  rw [hv];exact Vc
noncomputable def N9:oj Str:= ["a","b1","c/d","e.f","g","h9","k","m/n","zz"]
theorem n9_ok:∀z∈N9,nm z=true:=by decide+kernel
inductive sp_met (CP:Addr) (vs:List V) (H:Hp) (Q:VK) (E_:XK):Prop
 |mk (px:Addr) (n:Str) (qs:List (Str×D)) (_:vs= [.ref px,.str n]) (_:nm n=v_) (_:jg CP H px qs) (_:Q0 qs) (_:∀t H' don,Same H H'->H' t=u_ (.tup (don.map λp=>V.str p.1))->Dn qs n don->don.length<=20001->(∀p∈don,GI p.2/\p.2.en.isSome=v_)->Q (.ref t) H')
inductive sp_law (K:PySem.W.Frag) (vs:List V) (H:Hp) (Q:VK) (E_:XK):Prop
 |mk (a:Addr) (ns:List Int) (_:vs= [.ref a]) (_:SqL K H a (ns.map V.int)) (_:ns.length<=63) (_:∀H',Q (.bl v_) H')
theorem nL_strs:∀zs:oj Str,nL (zs.map D.str)=v_/\dpL (zs.map D.str)<=1
 | []=>⟨1,by simp [dpL]⟩
 |z::r=>by
  erw[nL_strs r,h1,h2];exact⟨by simp only [uq,nL,nD,h1,tH],by simp only [uq,dpL,dp];omega⟩
theorem Km {H:Hp}:∀{zs:oj Str},(∀z∈zs,z.length<=100)->L2.IsL H (zs.map D.str) (zs.map V.str)
 | [],_=>rfl
 |z::r,h=>⟨_,0,yU (by have:=h z uf;omega),Km λy O=>h y (ue _ O)⟩
variable {x:Str}
theorem don_nm (O:Q0 qs){n:Str}{don:oj (Str×Gp)}(h:Dn qs n don)(U:x∈don.map (·.1)):nm x=true:=by
 erw[Ab.mp U,[m,p],hp,rfl];erw[dn_mem h hp,s,e,_];exact O.1.1.1 _ ((Qq qs).gn _ s e)
theorem ok_met (T:Tx K mg a)(C:Fx K w mg g a):#[K,16,a.f_met_by,a.d_met_by,["project","name"],(sp_met a.qO)]:=by
 have O:=#[ok_from,T,C];exists 9,T.g_met_by,sc_met_by,U
 erw[h,px,n,qs,rfl,hn,hP,hq,k];exists _,%[|#[qt,#[qZ,#[call_tupleD,1,rfl],T.QN,vx,#v[#[qN,5,#[qw,16,O,U.mono (),_,T.g_order_from.m,T.g_order_from.F.kp,T.g_order_from.b,.nil,qB,#v[pv 0,pv 1],_,_,_],rfl]]]]]
 exists 7
 refine⟨0,0,px,n,qs,1,hn,hP,hq,λH' o rk uk fk don _ h hl=> ?_⟩;refine⟨o.x,_,o.dx,_,0,h.oa.e,T.qy,T.QW,of_fr o,o.dr,rk,1,.inl h.dr,λt ht=> ?_⟩;refine k t _ don (h.sm.trans (qg ht _)) ?_ h.dn h.len h.gi;rw [qh];have e:(rk.map λp=>kV p.1)=don.map λp=>V.str p.1:=by
  have:=congrArg (tt kV) h.ks;rwa [uK,uK] at this
 rw [e]
theorem ok_law (T:Tx K mg a)(C:Fx K w mg g a):#[K,64,a.f_law,a.d_law,["script"],(sp_law K)]:=by
 have Kx:=#[ok_lsrcs,T];have Wm:=#[ok_init,T];have Wh:=#[ok_rounds,T,C];have X8:=#[ok_drawn,T];have Z0:FnOk P w K mg base CX0 63 a.Jw a.JT ["runs","name","begun","left"] (wI 61):=ok_lmet T 61;have O:=#[ok_met,T,C];refine T.g_law.F.ok xt () (λ_ _ _ _ H vs Q E hr h=> ?_)
 erw[h,q,ns,rfl,hq,a3,k];have hs:=uB;exists _,%[#[qC,(1),xt.nd,#[qw,Kx,T.g_law_sources,#v[pv 0]]],#[qC,(2),xt.nd,#[qZ,#[WO,1,rfl],T.z_dict,Ti,#v[pv 1]]],#[qC,(3),xt.nd,#[ZS,T.M_Project,Wm,T.m_Project,T.g_Project_init,qB,#v[#[qZ,Qg,T.QN,vx,#v[pv 1]]]]],#[qC,(4),xt.nd,#[qH,qF,#[qw,Wh,T.g_law_by_rounds,#v[pv 2]],ql]],#[qC,(5),xt.nd,#[QT,#v[qm,qm,qm,qm,qm,qm,qm,qm,qm]]],#[qI,#[qq,op_gt,#[qx,qM,T.yt,uG,#v[pv 1]],ql],%[|#[qC,(5),xt.nd,#[qw,X8,T.g_law_drawn_names,#v[pv 0,ql,ql]]]],qv],#[YV,#[X7,pv 5],#[qT,(6),xt.nd],%[#[qC,(7),xt.nd,#[QT,qd]],#[qV,#[qw,Z0,T.g_law_met,#v[pv 4,pv 6,jL,pv 7]]],#[qC,(8),xt.nd,#[qw,O,T.g_met_by,#v[pv 3,pv 6]]]|@qI _ _ _ _ _ _ _ _ #[zy,#[Qy,#[Qj,#[qx,#[qU,2,rfl],T.qS,uX,#v[pv 8,#[Q3,.ty "tuple",T.QN,vx]]]]],#[Jo,#[qq,#[op_neTN,1,hr.units],pv 8,#[qZ,Qg,T.QN,vx,#v[pv 7]]]]].pt %[|#[qt,Ja]] qv]]|#[qt,Ja]]
 exists 7
 exists 8,N1,q1;refine⟨0,q,ns,1,hq,λL ps us H1 s1 hL al hok aK aL=>q1 _ _ ?_⟩;exists 8,N2,q2;erw[pairs_at al,ts,vs,aM,e1,e2,e3,e4];have a4:vs.length=ps.length:=by
  have:=congrArg Vz e3
  rwa [ua,ua] at this
 refine⟨0,L,vs,1,⟨ts,by rw [hL,aM],e1,e2⟩,(by rw [e3];exact hok.1.2),(),λd o hd=>q2 _ _ ?_⟩
 have s2:=qg hd (.frz o (.dK (inrK vs)));have am:SrcAt (upd H1 d (.frz o (.dK (inrK vs)))) d o ps:=⟨vs,qh,e3,e4.mono s2.tk⟩;have ao:=s2 _ _ hL;have U:=al.mono s2.tk;generalize upd H1 d (.frz o (.dK (inrK vs)))=H2 at s2 am ao U⊢;exists 8,N3,q3;refine⟨0,L,us,1,.inl [SqL.of ao:λt ht=> ?_]⟩;have m1:=qg ht (.tup us);intro x dx nx aN a5;have m2:Same (upd H2 t (.tup us)) (upd (upd (upd H2 t (.tup us)) dx (.own x)) x (.ins a.qO dx [])):=λb ob e=>by
  rwa [qi (qk e nx),qi (qk e aN)]
 have ap:=m1.trans m2;refine⟨x,dx,t,ps,us,1,qh,m2 _ _ qh,U.mono ap.tk,hok,aL,λqs H3 keep hP hT ag=>[1:q3 _ _ ?_]⟩;have s3:Same H2 H3:=λb ob e=>keep b ob (ap _ _ e) (qk (m1 _ _ e) nx);have aO:PQ ps qs:=⟨ag,hT,hok.1.2,aK⟩;exists 8,N4,q4;refine⟨0,d,o,ps,qs,1,am.same s3,aO,λt4 vd rd rr H4 s4 aP aQ aR=> ?_⟩;refine⟨t4,_,_,0,1,SqT.of aP,1,q4 _ _ ?_⟩;exists 8,N5,q5;refine[sml rfl:λl5 h5=>q5 _ _ ?_];have s5:=qg h5 (.lst (N9.map V.str));have e5:upd H4 l5 (.lst (N9.map V.str)) l5=u_ (.lst (N9.map V.str)):=qh;show tSeq _ _ _ _ (upd H4 l5 (.lst (N9.map V.str)));generalize upd H4 l5 (.lst (N9.map V.str))=H5 at s5 e5⊢;have aq:=((s2.trans s3).trans s4).trans s5;exists 8,N6,q6;have aa:=aQ.same s5;have aS:=(hP.same s4).same s5;have au:∀(l:o3) (zs:oj Str) (H6:Hp),Same H5 H6->H6 l=u_ (.lst (zs.map V.str))->(∀z∈zs,nm z=v_)->N6 [u_ (.ref q),u_ (.ref L),u_ (.ref d),u_ (.ref x),u_ (.ref rd),u_ (.ref l),U_,U_,U_] H6:=by
  intro l zs H6 s6 hl ah;refine q6 _ _ ?_;exists 8,N7,q7;exists 0,l,1,[_:SqL.of hl]
  let J_:Nat->L2.St->Hp->Prop:=λi σ H'=>(∃u6 u7 u8,σ= [u_ (.ref q),u_ (.ref L),u_ (.ref d),u_ (.ref x),u_ (.ref rd),u_ (.ref l),u6,u7,u8])/\Same H6 H'
  refine XS (xs:=zs.map V.str) J_ [[_:_:0]:Same.refl _] (λi σ H' _ h=>SqL.of (h.2 _ _ hl)) ?_ ?_
  ·rintro i y σ H7 hy ⟨⟨u6,u7,u8,rfl⟩,s7⟩;erw[Ab.mp (uQ hy),z,hz,rfl];have aT:=ah z hz;have ak:=s6.trans s7;show tSeq _ _ _ _ H7;exists 8,B1,b1;refine[uN _:λld aw=>b1 _ _ ?_];exists 8,B2,b2;have m7:=qg aw (.lst ([]:oj V));have ax:upd H7 ld (.lst []) ld=u_ (.lst []):=qh;generalize upd H7 ld (.lst [])=H8 at m7 ax⊢;refine[0:0:λbd ay=> ?_];have m8:=qg ay (.dK ([]:oj (Key×V)));have aA:upd H8 bd (.dK []) bd=u_ (.dK (inrK (kB []))):=qh;have aB:=m8 _ _ ax;have ac:=(aa.same ak).same (m7.trans m8);generalize upd H8 bd (.dK [])=H9 at m8 aA aB ac⊢;have aU:=m7.trans m8;have ad:H7 bd=none:=m7.free ay;have aV:rd≠bd:=by
    erw[aa.same ak,vr,aW,_];exact qk aW ad
   have aX:unb qs []<=60:=by
    refine uI (vq _ _) ?_;rw [ua];exact hT.2.2
   refine⟨0,rd,bd,ld,z,qs,rr,[],[],(60),1,1,hT,ac,aR,aV,aA,aB,⟨vV,(λy hy=>by cases hy),uh _⟩,aX,λaY aZ _ aC=>b2 _ _ ?_⟩
   have ae:Same H7 aY:=λb ob e=>aZ.kept b ob (aU _ _ e) (λw=>by
    simp only [uz,uD,uM] at w;rcases w with rfl|rfl
    ·rw [ad] at e;cases e
    ·rw [aw] at e;cases e)
   exists 8,B3,b3;have aD:=(aS.same ak).same ae;refine⟨0,0,x,z,qs,1,aT,aD,hT,λt aE don aF ht aG _ _=>b3 _ _ ?_⟩;have a1:=met_vis hT aG;have af:=aF _ _ aC;rw [<-a1] at af;have ei:(don.map λp=>V.str p.1)=(don.map (·.1)).map V.str:=by rw [uK];rfl
   rw [ei] at ht;have aH:∀z∈don.map (·.1),z.length<=100:=λz hz=>by have:=kL (don_nm hT aG hz);omega
   have aI:Is aE (.tup ((don.map (·.1)).map D.str)) (.ref t):=⟨t,0,ht,Km aH⟩;erw[nL_strs (don.map (·.1)),k1,k2];refine⟨0,_,"tuple",tyD (.tup ((don.map (·.1)).map D.str)),XH (.tup ((don.map (·.1)).map D.str)),1,aI.ty,JK _,0,iteF ?_⟩;refine⟨0,0,ld,0,.inl [SqL.of af:λt2 h2=> ?_]⟩;have aJ:=qg h2 (.tup ((don.map (·.1)).map V.str));have a2:Is (upd aE t2 (.tup ((don.map (·.1)).map V.str))) (.tup ((don.map (·.1)).map D.str)) (.ref t2):=⟨t2,0,qh,Km aH⟩;exact⟨_,_,aI.mono aJ.tk,a2,k1,k1,(),0,iteN (by rw [(eqNL_iff k1).mpr rfl];rfl) [[_:_:0]:(s7.trans ae).trans (aF.trans aJ)]⟩
  ·rintro σ H7 _;exact q7 _ _ (k H7)
 refine⟨0,L,0,.inl (SqL.of (aq _ _ hL)),_,0,1,0,ite2 (λ_=> ?_) (λ_=>au l5 N9 H5 (Same.refl _) e5 n9_ok)⟩;exact⟨0,q,ns,(95),(8),1,sq_sm hq (s1.trans aq),(),(),(),λl6 zs H6 s6 e6 ah=>au l6 zs H6 s6 e6 λz hz=>(ah z hz).1⟩
end
theorem tx_mk {K:o0}{h:o8}{mg:Str->om o6}(X:K.In h)(G:h.Ns Vv mg){U aa O ac f1 f2 f3 f4 f5 f6 f7 f8 f9 aV aW aX aY aZ a1 a2 a3 a4 a5 a6 a7 a8 a9 ba bb bc be bf bg bh bo bp bq bt bu bv bw bx bA bB bC bD bE bF bG bH bI bJ bK bL bM bN bO bP bQ bR bS bT bU bV bW bX bY bZ b3 b4 b5 b6 b7 b8 b9 ca cb cc cd ce cf cg ch ci cj ck:o3}{t1 t2 t3 t4 t5 t6 t7 t8 t9 cm cn:Tok}
  (aL:#[K,"Machine"]=u_ (u_ (.ref U))) (aM:Cls K U) (aC:PySem.W.makesIn K U=v_/\PySem.W.keepIn K (.ref U)=v_)
  (aP:#[K,"Going"]=u_ (u_ (.ref aa))) (aQ:Cls K aa) (aK:PySem.W.makesIn K aa=v_/\PySem.W.keepIn K (.ref aa)=v_)
  (aE:#[K,"PlainOrder"]=u_ (u_ (.ref O))) (aF:Cls K O) (ag:PySem.W.makesIn K O=v_/\PySem.W.keepIn K (.ref O)=v_)
  (aN:#[K,"Project"]=u_ (u_ (.ref ac))) (aO:Cls K ac) (aD:PySem.W.makesIn K ac=v_/\PySem.W.keepIn K (.ref ac)=v_)
  (h1:FZg K "is_text" wX f1)
  (h2:FZg K "is_tree" Xp f2)
  (h3:FZg K "is_name" ZH f3)
  (h4:FZg K "is_pair" Wj f4)
  (h5:FZg K "is_row_of_names" yX f5)
  (h6:FZg K "is_answer" xG f6)
  (h7:FZg K "part_of" wq f7)
  (h8:FZg K "pieces_of" xZ f8)
  (h9:FZg K "row_of" Zz f9)
  (h10:FZg K "read_lines" Jj aV)
  (h11:FZg K "rule_rows" Xd aW)
  (h12:FZg K "bad_line" zL aX)
  (h13:FZg K "is_rule" Z9 aY)
  (cp:FZg K "text_made" xJ aZ)
  (cq:FZg K "self_made" xB a1)
  (cr:FZg K "copy_made" xD a2)
  (cs:FZg K "row_made" zn a3)
  (cu:FZg K "put_made" zd a4)
  (cv:FZg K "join_made" Xa a5)
  (cw:FZg K "first_made" JL a6)
  (cx:FZg K "rest_made" xL a7)
  (cy:FZg K "size_made" xN a8)
  (cz:FZg K "cut_made" zh a9)
  (cA:FZg K "glue_made" xH ba)
  (cB:FZg K "is_jump_taken" Yx bb)
  (cC:FZg K "asked_or_fault" Yd bc)
  (aR:FZm K U "__init__" "Machine.__init__" Y4 be)
  (cD:FZm K U "now" "Machine.now" jx bf)
  (cE:FZm K U "answer" "Machine.answer" Yg bg)
  (cF:FZm K U "asked" "Machine.asked" YK bh)
  (cG:FZm K U "go_on" "Machine.go_on" YJ bo)
  (cH:FZm K U "is_waiting" "Machine.is_waiting" Q8 bp)
  (cI:FZm K U "do_row" "Machine.do_row" Yi bq)
  (cJ:FZm K U "hold" "Machine.hold" Y5 bt)
  (aS:FZm K aa "__init__" "Going.__init__" Jb bu)
  (cK:FZm K aa "begin" "Going.begin" jM bv)
  (cL:FZm K aa "look" "Going.look" JU bw)
  (cM:FZm K aa "wanted" "Going.wanted" Y6 bx)
  (cN:FZm K aa "take" "Going.take" JR bA)
  (cO:FZm K aa "full" "Going.full" Jg bB)
  (aT:FZm K O "__init__" "PlainOrder.__init__" yP bC)
  (cP:FZm K O "begin_anew" "PlainOrder.begin_anew" QM bD)
  (cQ:FZm K O "go_through" "PlainOrder.go_through" QL bE)
  (cR:FZm K O "enter" "PlainOrder.enter" yB bF)
  (cS:FZm K O "settle" "PlainOrder.settle" yk bG)
  (cT:FZm K O "runner" "PlainOrder.runner" yn bH)
  (cU:FZm K O "leave" "PlainOrder.leave" yJ bI)
  (cV:FZm K O "go_on" "PlainOrder.go_on" yL bJ)
  (cW:FZm K O "answer_yet" "PlainOrder.answer_yet" QO bK)
  (cX:FZg K "answer_at_once" Yh bL)
  (cY:FZg K "answer_by" xF bM)
  (cZ:FZg K "check_name" Jm bN)
  (c0:FZg K "check_names" jJ bO)
  (c1:FZg K "order_from" Jy bP)
  (c2:FZg K "order_over" JH bQ)
  (c3:FZg K "met_by" kY bR)
  (c4:FZg K "is_source" xy bS)
  (aU:FZm K ac "__init__" "Project.__init__" yZ bT)
  (c5:FZm K ac "sources" "Project.sources" jq bU)
  (c6:FZm K ac "source_of" "Project.source_of" ym bV)
  (c7:FZm K ac "looked_up" "Project.looked_up" QQ bW)
  (c8:FZg K "longest_row" jA bX)
  (c9:FZg K "_law_cell_at" jt bY)
  (da:FZg K "_law_pot" ZG bZ)
  (de:FZg K "_law_take" zu b3)
  (dh:FZg K "_law_word" zk b4)
  (di:FZg K "_law_line" J9 b5)
  (dj:FZg K "_law_rule" J6 b6)
  (dk:FZg K "_law_maker" xM b7)
  (dl:FZg K "_law_leaf" J0 b8)
  (dm:FZg K "_law_source" Jx b9)
  (dq:FZg K "_law_all_names" YE ca)
  (dt:FZg K "_law_link" X6 cb)
  (dv:FZg K "_law_sources" jw cc)
  (dw:FZg K "_law_wide_names" Yf cd)
  (dy:FZg K "_law_drawn_names" Q5 ce)
  (dz:FZg K "_law_tried" Xg cf)
  (dA:FZg K "_law_looked_up" YM cg)
  (dB:FZg K "_law_by_rounds" QY ch)
  (dC:FZg K "_law_asked_names" Q6 ci)
  (dD:FZg K "_law_met" wG cj)
  (dE:FZg K "law" s_law ck)
  (ay:#[K,U,"rows"])
  (aA:#[K,U,"rule"])
  (aG:#[K,U,"own"])
  (ap:#[K,U,"boxes"])
  (aq:#[K,U,"place"])
  (aB:#[K,U,"done"])
  (au:#[K,U,"given"])
  (aw:#[K,U,"there"])
  (aI:#[K,aa,"name"])
  (aH:#[K,aa,"order"])
  (ax:#[K,aa,"made_by"])
  (al:#[K,aa,"rule_asks"])
  (ao:#[K,aa,"rule_run"])
  (aJ:#[K,aa,"end"])
  (ad:#[K,O,"given_project"])
  (ah:#[K,O,"stack"])
  (ae:#[K,O,"under_way"])
  (af:#[K,O,"full_runs"])
  (ak:#[K,O,"found"])
  (am:#[K,ac,"by_name"])
  (g1:#[K,"MOST_SIGNS"]=u_ (u_ (.int 300 t1)))
  (g2:#[K,"MOST_PARTS"]=u_ (u_ (.int 40 t2)))
  (g3:#[K,"MOST_SIZE"]=u_ (u_ (.int 600 t3)))
  (g4:#[K,"MOST_DEPTH"]=u_ (u_ (.int 12 t4)))
  (g5:#[K,"MOST_NAME_SIGNS"]=u_ (u_ (.int 24 t5)))
  (g6:#[K,"LETTERS"]=u_ (u_ (.str "abcdefghijklmnopqrstuvwxyz" t6)))
  (g7:#[K,"NAME_SIGNS"]=u_ (u_ (.str "abcdefghijklmnopqrstuvwxyz0123456789./" t7)))
  (g8:#[K,"PERCENT"]=u_ (u_ (.int 37 t8)))
  (g9:#[K,"MOST_LINES"]=u_ (u_ (.int 40 t9)))
  (dF:#[K,"MOST_DONE"]=u_ (u_ (.int 300 cm)))
  (dG:#[K,"MOST_NAMES"]=u_ (u_ (.int 60 cn)))
  (zz:∀x∈(["ord","len","isinstance","str","tuple","all","int","range","zip","dict","sorted","abs","min","sum","max","reversed","list"]:oj Str),PySem.W.nsIn K Vv x=u_ U_):∃a,Tx K mg a:=by
 exists 6,d1,F1,Qd,h1,["value"];exists 6,d2,F2,Qd,h2,["value"];exists 6,d3,F3,Qd,h3,["value"];exists 6,d4,F4,Qd,h4,["value"];exists 6,d5,F5,Qd,h5,["tree"];exists 6,d6,F6,Qd,h6,["ask","answer"];exists 6,d7,F7,Qd,h7,["kind","piece","count"];exists 6,d8,F8,Qd,h8,["line","form"];exists 6,d9,F9,Qd,h9,["line","count"];exists 6,dH,dI,Qd,h10,["value"];exists 6,dJ,dL,Qd,h11,["tree"];exists 6,dM,dN,Qd,h12,["tree"];exists 6,dO,dP,Qd,h13,["value"];exists 6,dQ,dR,Qd,cp,["boxes","own","parts"];exists 6,dS,dU,Qd,cq,["boxes","own","parts"];exists 6,dV,dW,Qd,cr,["boxes","own","parts"];exists 6,dX,dY,Qd,cs,["boxes","own","parts"];exists 6,dZ,d0,Qd,cu,["boxes","own","parts"];exists 6,ea,eb,Qd,cv,["boxes","own","parts"];exists 6,ec,ed,Qd,cw,["boxes","own","parts"];exists 6,ef,eg,Qd,cx,["boxes","own","parts"];exists 6,eh,ei,Qd,cy,["boxes","own","parts"];exists 6,ej,ek,Qd,cz,["boxes","own","parts"];exists 6,el,em,Qd,cA,["boxes","own","parts"];exists 6,eo,eq,Qd,cB,["boxes","word","parts"];exists 6,er,et,Qd,cC,["word","held"];obtain⟨eu,ew⟩:=yW aR ["self","rule","own"] (by rfl');obtain⟨ey,ez⟩:=yW cD ["self"] (by rfl');obtain⟨eA,eB⟩:=yW cE ["self","tree"] (by rfl');obtain⟨eC,eD⟩:=yW cF ["self"] (by rfl');obtain⟨eE,eF⟩:=yW cG ["self"] (by rfl');obtain⟨eG,eH⟩:=yW cH ["self"] (by rfl');obtain⟨eI,eJ⟩:=yW cI ["self","row"] (by rfl');obtain⟨eK,eL⟩:=yW cJ ["self","box","tree"] (by rfl');obtain⟨eM,eN⟩:=yW aS ["self","name","source","order"] (by rfl');obtain⟨eO,eP⟩:=yW cK ["self","rule"] (by rfl');obtain⟨eQ,eR⟩:=yW cL ["self"] (by rfl');obtain⟨eS,eT⟩:=yW cM ["self"] (by rfl');obtain⟨eU,eV⟩:=yW cN ["self","answer"] (by rfl');obtain⟨eW,eX⟩:=yW cO ["self"] (by rfl');obtain⟨eY,eZ⟩:=yW aT ["self","project"] (by rfl');obtain⟨e0,e1⟩:=yW cP ["self","project"] (by rfl');obtain⟨e2,e3⟩:=yW cQ ["self","name"] (by rfl');obtain⟨e4,e5⟩:=yW cR ["self","name"] (by rfl');obtain⟨e6,e7⟩:=yW cS ["self","going"] (by rfl');obtain⟨e8,e9⟩:=yW cT ["self","rule","own"] (by rfl');obtain⟨fa,fb⟩:=yW cU ["self","going"] (by rfl');obtain⟨fc,fe⟩:=yW cV ["self","going"] (by rfl');obtain⟨ff,fg⟩:=yW cW ["self","name"] (by rfl');exists 6,fh,fi,Qd,cX,["source"];exists 6,fj,fm,Qd,cY,["end"];exists 6,fo,fq,Qd,cZ,["name"];exists 6,ft,fu,Qd,c0,["names"];exists 6,fv,fw,Qd,c1,["project","name"];exists 6,fx,fy,Qd,c2,["project","names"];exists 6,fz,fA,Qd,c3,["project","name"];exists 6,fB,fC,Qd,c4,["value"];obtain⟨fD,fE⟩:=yW aU ["self","sources"] (by rfl');obtain⟨fF,fG⟩:=yW c5 ["self"] (by rfl');obtain⟨fH,fI⟩:=yW c6 ["self","name"] (by rfl');obtain⟨fJ,fK⟩:=yW c7 ["self","ask"] (by rfl');exists 6,fL,fM,Qd,c8,["names"];exists 6,fN,fO,Qd,c9,["script","k"];exists 6,fP,fQ,Qd,da,["cell","salt"];exists 6,fR,fS,Qd,de,["pot","many"];exists 6,fT,fU,Qd,dh,["pot","names"];exists 6,fV,fW,Qd,di,["pot","names","many","k"];exists 6,fX,fY,Qd,dj,["pot","names"];exists 6,fZ,f0,Qd,dk,["pot","names"];exists 6,ga,gb,Qd,dl,["pot","names"];exists 6,gc,ge,Qd,dm,["pot","names"];exists 6,gf,gg,Qd,dq,["script"];exists 6,gh,gj,Qd,dt,["pot","names","k"];exists 6,gk,gl,Qd,dv,["script"];exists 6,gm,gp,Qd,dw,["script"];exists 6,gq,gr,Qd,dy,["script","salt","many"];exists 6,gt,gu,Qd,dz,["sources","name","values"];exists 6,gv,gw,Qd,dA,["sources","kind","text"];exists 6,gx,gy,Qd,dB,["sources"];exists 6,gz,gA,Qd,dC,["run"];exists 6,gB,gC,Qd,dD,["runs","name","begun","left"];exists 6,gD,gE,Qd,dE,["script"];have z:∀x∈(["ord","len","isinstance","str","tuple","all","int","range","zip","dict","sorted","abs","min","sum","max","reversed","list"]:oj Str),mg x=none:=λx hx=>PySem.W.mg_none_of X G (zz x hx);simp only [uz,vj,uM,forall_eq_or_imp,forall_eq] at z;erw[z,z1,z2,z3,z4,z5,z6,z7,z8,z9,gF,gG,gH,gI,gJ,gK,gL,gM];exact[⟨f1,d1,f2,d2,f3,d3,f4,d4,f5,d5,f6,d6,f7,d7,f8,d8,f9,d9,aV,dH,aW,dJ,aX,dM,aY,dO,aZ,dQ,a1,dS,a2,dV,a3,dX,a4,dZ,a5,ea,a6,ec,a7,ef,a8,eh,a9,ej,ba,el,bb,eo,bc,er,be,eu,bf,ey,bg,eA,bh,eC,bo,eE,bp,eG,bq,eI,bt,eK,bu,eM,bv,eO,bw,eQ,bx,eS,bA,eU,bB,eW,bC,eY,bD,e0,bE,e2,bF,e4,bG,e6,bH,e8,bI,fa,bJ,fc,bK,ff,bL,fh,bM,fj,bN,fo,bO,ft,bP,fv,bQ,fx,bR,fz,bS,fB,bT,fD,bU,fF,bV,fH,bW,fJ,bX,fL,bY,fN,bZ,fP,b3,fR,b4,fT,b5,fV,b6,fX,b7,fZ,b8,ga,b9,gc,ca,gf,cb,gh,cc,gk,cd,gm,ce,gq,cf,gt,cg,gv,ch,gx,ci,gz,cj,gB,ck,gD,U,aa,O,ac⟩:⟨F1,F2,F3,F4,F5,F6,F7,F8,F9,dI,dL,dN,dP,dR,dU,dW,dY,d0,eb,ed,eg,ei,ek,em,eq,et,ew,ez,eB,eD,eF,eH,eJ,eL,eN,eP,eR,eT,eV,eX,eZ,e1,e3,e5,e7,e9,fb,fe,fg,fi,fm,fq,fu,fw,fy,fA,fC,fE,fG,fI,fK,fM,fO,fQ,fS,fU,fW,fY,f0,gb,ge,gg,gj,gl,gp,gr,gu,gw,gy,gA,gC,gE,aM,⟨aC.1,aR.1,aR.2.1,aC.2⟩,uP X G aL,ay,aA,aG,ap,aq,aB,au,aw,aQ,⟨aK.1,aS.1,aS.2.1,aK.2⟩,uP X G aP,aI,aH,ax,al,ao,aJ,aF,⟨ag.1,aT.1,aT.2.1,ag.2⟩,uP X G aE,ad,ah,ae,af,ak,aO,⟨aD.1,aU.1,aU.2.1,aD.2⟩,uP X G aN,am,[_:uP X G g1],[_:uP X G g2],[_:uP X G g3],[_:uP X G g4],[_:uP X G g5],[_:uP X G g6],[_:uP X G g7],[_:uP X G g8],[_:uP X G g9],[_:uP X G dF],[_:uP X G dG],z1,z2,z3,z4,z5,z6,z7,z8,z9,gF,gG,gH,gI,gJ,gK,gL,gM⟩]
variable {K:o0}{h:o8}{mg:Str->om o6}{x:Str}
theorem mk1 (X:K.In h)(G:h.Ns Vv mg){O f:o3}{y:Str}(z:∃m,PySem.W.nsIn K Vv y=u_ (u_ (.ref m))/\PySem.W.nsIn K O x=u_ (u_ (.ref m)))(e:mg y=u_ (.ref f)):PySem.W.nsIn K O x=u_ (u_ (.ref f)):=by
 erw[z,m,h1,h2];have:=(uP X G h1).symm.trans e;injection this with this
 injection this with this
 rw [<-this];exact h2
noncomputable def MKP:oj (Str×Str):= [("text","text_made"),("self","self_made"),("copy","copy_made"),("row","row_made"),("put","put_made"),("join","join_made"),("first","first_made"),("rest","rest_made"),("size","size_made"),("cut","cut_made"),("glue","glue_made")]
noncomputable def keyS (e:GF):om Str:=match e.key with
 | .str x _=>u_ x
 |_=>U_
variable {a:o3}{es:Array GF}{n:Nat}{z:Str}
theorem none_of (hl:K.lookup a=u_ ⟨.type "dict",U_,.dict es n,#[]⟩)(hk:es.toList.map keyS=FRM.map λx=>u_ x.1)(hz:xl z=U_):PySem.W.nsIn K a z=u_ none:=by
 have h1:∀e∈es.toList,∃x t,e.key= .str x t/\x≠z:=by
  intro e U;have hm:keyS e∈es.toList.map keyS:=Ab.mpr [e:U:1];rw [hk] at hm;erw[Ab.mp hm,x,hx,ex];have O:=wK hz x hx;unfold keyS at ex;split at ex
  ·rename_i y t hy
   cases ex;exact⟨_,_,hy,O⟩
  ·cases ex
 unfold PySem.W.nsIn;rw [hl];dsimp only;have f1:es.toList.find? (λe=>e.key.isStr z)=none:=by
  rw [U4];intro e U;erw[h1 e U,x,t,hx,O];rw [hx];exact λq=>O (um q)
 have f2:es.toList.any (·.refKey)=false:=by
  rw [HV];intro e U;erw[h1 e U,x,t,hx,O];unfold Fb;rw [hx];exact u9
 rw [f1,f2]
 rfl
theorem fx_mk {w:og}{K:o0}{h:o8}{mg:Str->om o6}{a:Ad}(T:Tx K mg a)(X:K.In h)(G:h.Ns Vv mg){aB aA aF aM O U:o3}{eF eM:Array GF}{nF nM:Nat}
  (gB:#[K,"BOXES"]=u_ (u_ (.ref aB))) (gA:#[K,"ASKING"]=u_ (u_ (.ref aA))) (gF:#[K,"FORMS"]=u_ (u_ (.ref aF))) (gM:#[K,"MAKERS"]=u_ (u_ (.ref aM)))
  (lB:TZ K aB BX) (lA:TZ K aA ["ask","has","names"]) (lF:K.lookup aF=u_ ⟨.type "dict",U_,.dict eF nF,#[]⟩) (lM:K.lookup aM=u_ ⟨.type "dict",U_,.dict eM nM,#[]⟩)
  (kF:PySem.W.KeysLit w.params eF.toList) (kM:PySem.W.KeysLit w.params eM.toList) (zF:(aF==Vu)=V7) (zM:(aM==Vu)=V7)
  (fF:∀x∈FRM,TZn K aF x.1 (x.2.map Kd.t)) (fM:∀p∈MKP,∃m,PySem.W.nsIn K Vv p.2=u_ (u_ (.ref m))/\PySem.W.nsIn K aM p.1=u_ (u_ (.ref m))) (oM:∀z∈NOMK,PySem.W.nsIn K aM z=u_ U_)
  (kk:eF.toList.map keyS=FRM.map λx=>u_ x.1)
  (g1:#[K,"BadRule"]=u_ (u_ (.ref O))) (b1:PySem.W.excIn K O VE "ValueError.__new__"=v_)
  (g2:#[K,"BadName"]=u_ (u_ (.ref U))) (b2:PySem.W.excIn K U VE "ValueError.__new__"=v_):∃g,Fx K w mg g a:=by
 refine[⟨aB,aA,aF,aM,O,U⟩:⟨uP X G gB,uP X G gA,uP X G gF,uP X G gM,λH=>lB.sq (),λH=>lA.sq (),⟨zF,eF,nF,lF,kF⟩,λx hx=> ?_,⟨zM,eM,nM,lM,kM⟩,mk1 X G (fM ("text","text_made") ()) T.g_text_made.m,mk1 X G (fM ("self","self_made") ()) T.g_self_made.m,mk1 X G (fM ("copy","copy_made") ()) T.g_copy_made.m,mk1 X G (fM ("row","row_made") ()) T.g_row_made.m,mk1 X G (fM ("put","put_made") ()) T.g_put_made.m,mk1 X G (fM ("join","join_made") ()) T.g_join_made.m,mk1 X G (fM ("first","first_made") ()) T.g_first_made.m,mk1 X G (fM ("rest","rest_made") ()) T.g_rest_made.m,mk1 X G (fM ("size","size_made") ()) T.g_size_made.m,mk1 X G (fM ("cut","cut_made") ()) T.g_cut_made.m,mk1 X G (fM ("glue","glue_made") ()) T.g_glue_made.m,oM,λz hz=>none_of lF kk hz,uP X G g1,b1,uP X G g2,b2⟩]
 erw[fF x hx,q,h1,h2];exact⟨q,h1,λH=>by rw [zr];exact h2.sq (by rw [ua];exact uI (form_few x hx) ())⟩
end K23
open PySem PySem.W PyProof.Rows L2
set_option maxRecDepth 100000 in
set_option maxHeartbeats 0 in
theorem PySem.Challenge.cw_askwright_k23_the_plain_order_holds : PySem.Challenge.rw_askwright_k23_the_plain_order.Holds := by
 w_on;o_law;k_head;(case hw=>w_witness2)
 k_fill
 refine L2.walk_ofK (l:=PySem.Challenge.rw_askwright_k23_the_plain_order) (n:=63) (k:=64) (x:="script") (CX:=L2.CX0) (sp:=K23.sp_law) rfl (by decide) rfl ⟨rfl,by decide,by decide⟩ (fun w h Y=>PySem.W.kIn_of Y) ?F ?S ?C
 case F=>
  intro w mg fa h KX G hmg
  have T:∃a,K23.Tx (L2.KOf KX) mg a:=by
   dsimp only [L2.KOf]
   refine' K23.tx_mk KX G ..
   all_goals first|exact⟨by k_is,_,_,_,_,_,_,_,_,_,by k_is,by k_is,by k_is⟩|exact⟨by k_is,by k_is,_,_,_,_,_,_,_,_,_,by k_is,by k_is,by k_is⟩|(show _=_;k_is)|exact⟨by k_is,by k_is,by k_is,by k_is⟩|exact⟨by k_is,by k_is⟩|(intro x hx;simp only [uz,vj,uM] at hx;rcases hx with rfl|rfl|rfl|rfl|rfl|rfl|rfl|rfl|rfl|rfl|rfl|rfl|rfl|rfl|rfl|rfl|rfl<;>k_is)|skip
  erw[T,a,T]
  have C:∃g,K23.Fx (L2.KOf KX) w mg g a:=by
   dsimp only [L2.KOf] at T⊢
   refine' K23.fx_mk T KX G (kF:= ?kF) (kM:= ?kM) (fF:= ?fF) (fM:= ?fM) (oM:= ?oM) (kk:= ?kk) (b1:= ?b1) (b2:= ?b2) ..
   all_goals try (first|(show _=u_ (u_ _);k_is)|(show _=u_ (Obj.mk _ _ _ _);k_is)|exact⟨_,_,_,_,by k_is,rfl⟩)
   (case kF=>(repeat (first|exact trivial|refine[⟨_,_,rfl,rfl⟩:?_])));(case kM=>(repeat (first|exact trivial|refine[⟨_,_,rfl,rfl⟩:?_])))
   case fF=>
    intro x hx
    unfold FRM at hx
    simp only [uz,vj,uM] at hx
    rcases hx with rfl|rfl|rfl|rfl|rfl|rfl|rfl|rfl|rfl|rfl|rfl|rfl|rfl|rfl|rfl|rfl|rfl|rfl|rfl|rfl<;>exact⟨_,by k_is,_,_,_,_,by k_is,rfl⟩
   case fM=>
    intro x hx
    unfold K23.MKP at hx
    simp only [uz,vj,uM] at hx
    rcases hx with rfl|rfl|rfl|rfl|rfl|rfl|rfl|rfl|rfl|rfl|rfl<;>exact⟨_,by k_is,by k_is⟩
   case oM=>
    intro x hx
    unfold K23.NOMK at hx
    simp only [uz,vj,uM] at hx
    rcases hx with rfl|rfl|rfl|rfl|rfl|rfl|rfl|rfl|rfl<;>k_is
   (case kk=>rfl);(case b1=>k_exc);(case b2=>k_exc)
   all_goals rfl
  erw[C,g,C]
  have e0:=hmg.symm.trans T.g_law.m
  cases e0
  exact⟨_,T.g_law.law (fun _ _ _ _ _ _ _=>rfl),(by erw[T.g_law.F.ex,_,_,_,_,_,_,_,_,_,e,_];rw [e];rfl),fun base kb nb=>K23.ok_law T C⟩
 case S=>exact fun w H a ns hl hO hS=>⟨a,ns,rfl,hS,hl,fun _=>rfl⟩
 case C=>exact fun _ _ _ _ z=>z
