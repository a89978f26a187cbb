import PyProof.Rows.All
import Wide.All
import OpenK.AllK
import Wide.FinOn
import Lean
import PyProof.EqAt
import PyProof.EqKinds
import PyProof.TupleCall
import PySem.Str
import PyProof.ZipIter
import PyProof.Draws
import PyProof.StrLawsChain
import PyProof.StrLawsTight
import KE.KIntText
import OpenK.KTop
import PyProof.StationsW
import PyProof.ExcClass2
import PyProof.ExcBaseAll.ValueError
import PyProof.Rows.Catch
import OpenK.KOwn
import KE.KTryMore
import KE.FramesApart
import PyProof.RulesAs
import PyProof.NsDelKeeps
import PyProof.ExcArgs
import PyProof.Rows.SortStr
import KE.KDictSum
import PyProof.DictWalks
import PyProof.IsiH_list
import KE.KDictOf
import PyProof.NeKinds
import PyProof.StrCalls6
import PyProof.FString
import KE.KUnpack
import KE.KItemsList
import KE.KRevIter
import KE.IntBitsLaws
import PyProof.FString5
import PyProof.TupleKey
import Wide.Seal
import PyProof.Rows.SortShellK
import PyProof.DictRoadsH
import PyProof.Rows.SortRev
import PyProof.Rows.SetFrom
import PyProof.FactsAll.set_2
import PyProof.FactsAll.set_1
import PyProof.Rows.SortShell
import PyProof.Tail
import KE.KMinKey
import PyProof.ExcArgsOwn
import PyProof.ExcAttrAll.ValueError
import KE.KRevSl
import PyProof.FactsAll.dict_itemiterator_1
import PyProof.TupleOfSeq
import PySem.Challenge.RW_askwright_k20_answers_by_rounds
local macro_rules|`(↑$x)=>`(($x).length)
local macro_rules|`(tactic|simp! [$x,*] $[$l:location]?)=>`(tactic|simp only [$x,*] $[$l]?)|`(tactic|dsimp! [$x,*] $[$l:location]?)=>`(tactic|dsimp only [$x,*] $[$l]?)
set_option hygiene false in
local macro_rules | `(command| #print $s:str) => do { let mut a := #[]; let mut n := 0; let mut k := 0; for c in s.getString.toList do { let v := c.toNat; n := n*64+(if v<58 then v-48 else if v<91 then v-55 else if v==95 then 62 else if v==126 then 63 else v-61); k := k+1; if k%11==0 then { a := a.push (Lean.mkIdent (Lean.Name.mkSimple ("tw"++toString n))); n := 0 } }; `(structure PySem.W.Fast:Prop where ($a*:True)) }
set_option maxRecDepth 100000 in
#print "119pBsxWnI192Zzx8nZYxAAquvkhSM3HIAe_l3pXffeZ1IdbK6rZKlg3Hi7ZxL58p~F9QpLQin_0FFwox2HM5yjS4OiJ4_wdFb_F4S59AtXfpfDsHv0D1TF4O50MgYYaVMs51zcYGi2lqXV84xPYmhvH5M8pkZfWBIuPrAEBiVoIcLHV6zgYQsGDuLVDh5Q7tJWGoi6ThE0snewXW7EsQ2BZfcUK7KDc1mXClSU03XnKN6u~faDhbejGstk60A4zWt14mLgz3bjuZKdHI684jxUxOY_xmoDBeaWZstlmaDCHi_pUEUpp4AsvTx12xMECcMWcp8Ja1_7SkCyyvsOx1AGV7N2K67R~3luCgObjOUkAS~tpSEyCKbAnur3KsOuGvEMmd3XcAPz53xfB1nUV4Xv8kCVbAY3k3m3rnIQSmxrC9AS4NIIPYENFEelqthl2Oxa9uoLF0mF3lX14UbU3nMeZ68g~XIr626bOFRU0FJDd7BjFgnwW9Rr3~s2mT79ToDBag80~8Wj8jUIg4oefp5LMSe99bvc1rZ5Hsy65xRGRDU6187WN9gkOBGvr94L9z4E051G1clxzrxFh22BOk~uZBkDheEBYGEioNvu389hMVVgWa~97ZcJFODvfb23G6FFh3ZjqOB~I_pUj1Hb22XaOvJF88SL0IYmRfu8OW40sEH7MEmkaT6crXfhYfT2bBcc5F2Elg8N1TA4HxdTUjq1MN6D7M_88JB3iVvnxh8QrE~1rYbiA1ZmCJYzzR54PM756z_D8ccK6BDDgYSyuNyim9alMymNqLQd0quYeYy3ND1F4l48I28~RNCKyMpldFQN~FMHA2rR2YenECfdkjKnIqx5Ebe9rv4T_EFJR275ihH6h7TrndUoa0ZnBTejuzCSZim2VaqStYXtB323UB8Y0y7zD2CF8I5NvBJ_44501fc2IRwCNU691jA~mG27gnIOhKv2v7zYoBY0ILNN1a2QrvKTuAl7HbWGPyL7im8omyMre57AdB94qd~XeaU0FOB4bicnySH3wHp95GyzRjFCsfo_l82Q3Cr6Y5XCJsAU9WzKtvsOSVfFNdTP5OPL8X9Iw0BQGrmrR43n2ZqCKlhm4qkc6X6td8i0fR~0hzFoic6FkhQXU5QpuCIkMYe2wYvm0A9og5zn7Rr0edKbc4gGv1Ah~LbLF3cPC0Xnyw2BrgqBCuKWJQKf98H78wVr~EWurH2hjfq9khutR17wkGWa_tbI0pZSAPaqZ3T3gglE5K5u5b7Sf_tfPwSNT29_KzA89eMR1Z16ltW5YYhAL8LMxekIwF2D2GEcLA6MN9fecyrShPJy7xJHYun5RWc8Oo7CkfdxxpAQbq_gfhb8O3ZSRzxCrH2ECfDyHG7M6C8EaOgU~EEB5~61kpxrqWpPy2~Z5byEpRh48wwjT0pL2vV9M5d7hC8JTNEF~6KvszrOq9zafwvyfOU726yxKuqszYiFpwddZrLcaaBfciTtOk6xxFpnrDmcwP5wCnScR3UFKmj4VEhssUcAm3CD0I~AZTgDLDev1CvAuXhv9XrZOL7_WTrCpiEJGTsfbV1f21TJoPfge3CD~aCNQB7p5x2ahHZoUU99vGZ7N6Eyw4C602wghDGTfAZqvjpTTpUWAGkq2t4~Ew75VfnGbK5EipENsAXirEJaE25a76ynJ13~A3jCAnRs8Sm5n1GeGLOD3BCjF3qx5WJQUEzt6Zv5HlmPAVbcmwyKnJs6utzp7ai0aGCBBnwuv6k9mBDlxknuWimm5PDRJ7B0RpO2UxfhXgom1N2EOgm6LXjUP0nNPmBcCtXp5N5S3lATfzC3xzhwJa2fNk5oiPGJSFvpu9uh21MM_yZZDIsm0B1zT~k6dcA3XfsioX2V76UpEHMxW7~U8iq6I_xmAsydEs1zRPEFgAqmJR4idH2kiXd9A_dRs8c0VXB~DnPl5WhPwgF4WtO4Suhks~liXB8ERys~~PvcQ1CuzqIVOrjEDMEHAE7V95sAvvJ644ndXQ8juQUjtbxVwClCmdPkurwSAD~kwvVhpwg3ujLy1K_KLxFg6TV8zwxs4FVX_ynQ2M3R2BdrGu3Gm8G0tH0X4mQqxAABJVSgGAliJ8dAOr9gnzUU3OT0Ndvs1p~6fAcSzEzEG12ZOQsOnSMY453AkdCYuRFt6AtWTC1_Wp4FZagnLaqLf1Dk0HnzUoweh1NvCV68F8Ko4whTSn6GLa9ByTbrc2thPY6jYP8hRU6Us3gfWl~3utrl5Jp1wULP4IS6O4Dd4wNZ6t84vv~zCjura8GARkoFX__W2uKteidrWJI5KB13Mhz1eC5bNERtOvpJr2szDy23R43T30Tw2rTizKHDPstGFYq8KI8HU6VDCdEMQ1fvNAk68h7wEa1vDzBweURC8wXy~0zPyqBdbriE9RKPlA1fiouAWyFW32IhgIGwhJU9IgNCj06h1N3i~5iXRDw1vASLTx4n03ak2YoyNtQZh~6B7GfGp1LG6cA9IDRnWwITkDUQXOUeZsTJ6B3YT17SNFn5gehk~tpphV8SpCodDKYfV5jqH9y9pBfm42TpIxztRoD9VCcGdREhYU9nJIH3R2kB16LD0iLDIXt7C~LehX98kwKCUBAg6oFSdE9ZB~1KbB98_88~Ia8BlN~D5yJZ53utUcqAsK4ux1Pvuo83YTYP9J5GiAL88LOvCEsw8Pbgw7RNhhV2lHQW8t~QAkElhNoLQG1VbFPCea5grzx_EncL8yrPSXP2hJU4Venl1w8iNf96CSb4P7W38UHJH1s64bOVY8Iq696AO9UgJpyX3~FBNDMJeawA~74Vt0HW0p_q2_EgnfvSw_5EzJntqZ9SuP45hODrs_D1h3PBw8ydaLlK2YaP~6yqudREYM8~MECDxhFk8gRB6MK_~0y66_fKcu6l9msiwVgVuGFAKqOzvQ4H792_w_afH2wE60DS4hDVVzV~A29gup_XGa34iTMJpFU6UBFCjV0XMi5y6CaOkx4kIScQE0QbZJyyBnOA2RN9b6P~~v7gvd2W45WQ0AYFPGAKTc~36emjuURsnWn5mBWhPF4L2g8xFw2dW7wsiEja5JoJ9cAsDxZ2pt6eclv22I5fPOnNuk7ZY6jHrcJsp85iug2QdWKpC4LnTtS8zPdCh28BYdmQkL4jGxDxtPCp1B7EYkyvEOAN1IQrUNMElvAFQ1~mYjkyWD8XFbHY3pcXkCF6EIrtLG6AEogJ~R9qiw94IVHcUsmDAf314Fp1cBwUl8qnOt92AOCV1sghCLG1KDp7~a1W0453yQEXsy7ND0QiH3zw6vNK59Fi6ecaKA0rXC_E3BMFCBLcta9TcUf_O2dCxFZVXkWjwtcJBf0_B_zZu8HECU_Py~JmOe2WyvKAcmxvr8FT_6YuNy3M93ksm7eB1u47anEZOV4AW36GEmnor0NqF2LYFmI8b0yVFQXXgiHnDbu8RENB7otFkU7iLQvskPgrn6NENZn8_xzkFQ~zyRjvSTIFHBOEinXkj18yxo1JkKfyi0F0iQogMUCR6EGYZj4QqrRF1q3cLZSWDZ73sima8tsbD5tZa9f4865ADT4hLbw8BezB~UniW~JMdGDJZDm65pQA5BSgsAk48CXh7VcMqhfiw2LEejPoV8WDXe2GY~Zkp0PtO1I9GBImHcTT99ZgyLCKFvbDPACHSLasXC4d0VjjIp5qrDCA~wqoOGOB8x1hyhyymfd1ADLGfDbIDKA07Y8IOPhgREvLXTGeL_Bi3bgnahoauCL86zHLMGA3_K0mP4fLSfq0n2nfk2NSOTYhFrDcXsJSpef1TRil6Xn0962~_OCvYDZw98R9cFBcWv4JC8EuFmH~x3D1jmwUK~LhT74zFXBReTa9j8bXQ8XUQem14AnuvieIXNG7qyhEBfs894EL0ncl_S8BL2dl~43phsLi3~~Afvj1YmP1jxTh9naL0mDOz9KknBUftCaIo7bQj0SV04~g0is3g5s2HHMad_wmwg8cH2PbKbx5v45wvLodMyTX8Xj_4ZQVUWTBTJpO8Z6lgL3VVkFjE5WKy5md1RcZdy7m5m1iwq3PT3z4AkaVdjb11E9ithn09U6sw4ZvOyIFnhFq6jLRKWYNnwyElSPAmLBgkj5A_oOG3CraR1NOyYUQlJ313aVn1ZPSzTsA3X5nEtyubsCoCOJxYsr9eDcUWJIKIjtuFEFzvGyspV46~JzSBf4OCD7B1Iqx751E4FcapwoLFhG_DFjpESakKH170pzPtSExq48Oi_2D1I8QY53zQ1skW5KQ7lV7AabrACVEIFV2IuU2XI3QLHMbKT5SD9y63AJ7mdHXBPakVmLzN7u6zuRM6lWQ_MFf8GUqdZCRVB_Z9hNkjCSw1KRM52NxhCtB8CCtPi0jJz7Kjs_YFtdccAOql~CJOZHt2fStRmSLMxG6ZYc6RtWvcDF63L697HwnaFjjGPgxbfWzE1k01UnHezQ5LY2DOoYM2Z6KVaTKaVpcPD4t6DcK9uhgDiTqoMCq99IDZi4BPNnVxkAkr4yVG8mkN29PDkA2jEbm7c1n_YJWHyf2wbEIxEB1Tp40uyKXJlx2c29B_0tdHa~g4giRfskKXeECwoML31dxVnFUJeoEviNnJ5G3qiPebzU8E6ruQQgT8za1eUqMqsCIGwAwVCtHM_HH6FDOdkuYnt8u6PF59Bwr6qF0DYjakFW6gWD4Jo9cfs9DnEm~MevgVfLh1C8ci7TIRW225HocPvDsg35cRVjzCLSpg6ZvTFCb29LX6Bpkc9uCuBDFgKzBkVREudEm1x_wPrOu_F3qs0od3ATn6End9sSa4Tn49pTTkJb44t4r4EGJHers0AotIJMOpmo35~VjZjcTUCh5u39tEbYEiK22q~mMt80YLAtOOp1jXaUS22esyVagoAV5WFpjMxSMMoC_ZNQTclyKM0~lJ_tEF6ON10wtxSH0u2858OKOpy1Wk18_EMFzyxRWgAOCWeWHbzEt3ixTOeaVwg~2I~JY70xmrJ3L7qBBmNCNt1YBQ7oYyXopE_ImconxvTj5Qwho5cIg3pBkp6_~kY0MAFhD5pOnQxL9BF23zzojhAFANyJOGeJTDCC0XP4v7CuTg0av49TjISku0s~GY9YHO9t56UfVMp4URf3DOqWIXARO6Dsd48oL2SGfA1tzkcMq4Ch7zgENgQ_uAN7H74I3837CK0S0qpuXk8EECLwFMp8GEJR4QGdLX5Fp5h2BedQFO0JQuEGCfV1hfSpACOI0kZPthJ01tFgNL~j_XwDZfRi3TZaclFNpsag7I_MK8MIssK_PLzS8q_M71ob3W~4tiOyO_HMAD2ifqOzgwXxvBcGIiX2x87J4IVwoZp7ufH6TAPi2ouEdTC8hRn97JhBkCVNmqvGufM16fIvConG4JK1zvOa5qshxJ8gJjQ7QHyRL072~zsO7Y9N2DRvF3ekXO18LgCVdRCK4xDY5LHMhkKkdDuiBT3gTa6w0yrB4sjPvtdB4Irc4Q9xsE7LHy355VXBwCRn~v78XJKoEAIrpVpHs3eCNzUsa3_VtG0gHPjP0f2BIE2_Z_DhKDX89aUDBEa0Jf22UglMyQFuaO18q49zRydSI7GpMyGfyn3y7uyrqovjzmlCw04H94ibCU4XdES9GlAOC9aCJginlSb97lHjKnKdhra3xDE6wGcxqS9JCWKK9rT7e0tw6x6gLzY_Ap8vhy2yhI4Ef96Y8GRQEb1u~N5pOWdZN"
set_option bootstrap.genMatcherCode false
set_option genSizeOf false
set_option compiler.extract_closed false
local macro_rules | `(tactic| trivial) => `(tactic| first | rfl | exact .inl rfl | exact .inr rfl | exact .inr (.inl rfl) | decide +kernel | (intro _; rfl) | omega | exact ⟨rfl,rfl,rfl,by decide +kernel,rfl,by decide +kernel,by decide +kernel⟩ | (intro _ _ _ _ _ _ us hl; rcases us with _|⟨_,_|⟨_,_|⟨_,_|⟨_,_|⟨_,_|⟨_,_⟩⟩⟩⟩⟩⟩ <;> first | rfl | cases hl) | (intro _ _ _ _ h; cases h; subst_vars; rfl))
set_option hygiene false in
local macro_rules | `(tactic| ac_rfl) => `(tactic| ((try dsimp only);first|assumption|exact Inv.tk (by assumption)|exact Nat.succ_pos _|exact Nat.lt_of_lt_of_le (Inv.tk (by assumption)) (by assumption)|exact Nat.add_pos_left (Inv.tk (by assumption)) _|omega))
local macro_rules | `(()) => `(by trivial)
local macro_rules | `(#[$f:ident,$n:num,$xs,*]) => do let h ← `(_); let b ← `(by trivial); let mut a := Array.replicate n.getNat h; for x in xs.getElems do { match x.raw.isNatLit? with | some k => a := a ++ Array.replicate k h | none => a := a.push (if x.raw.isOfKind ``Lean.Parser.Term.hole then b else x) }; `(@$f $a*)
local macro_rules | `(⟨$xs,*⟩) => do let h ← `(_); let r ← `(rfl); let mut a := #[]; let mut c := false; for x in xs.getElems do { match x.raw.isNatLit? with | some 0 => { a := (a.push h).push r; c := true } | some _ => { a := a.push r; c := true } | none => a := a.push x }; if c then `(⟨$a,*⟩) else Lean.Macro.throwUnsupported
set_option hygiene false
local macro_rules | `(#v[$xs,*]) => do let mut r ← `(qd); for x in xs.getElems.reverse do { r ← `(#[qb,5,$x,$r,_]) }; return r
local macro_rules | `(%[$xs,*|$k]) => do let mut r ← `(#[qe,3,$k]); for x in xs.getElems.reverse do { r ← `(#[qc,5,$x,$r]) }; return r
local macro_rules|`(#[w])=>`((by with_unfolding_all rfl))|`(#[X,X])=>`((model X.prog X.w))|`(#[w,w])=>`((model prog w))|`(#[Y,$a,$b])=>`((⟨$a,$b⟩:Sy.Ss (SyP qs)))|`(#[K,$a,$b,$c,$d,$e])=>`(FnOk P w K mg base CX0 $a $b $c $d $e)|`(#[K,$s:str])=>`((PySem.W.nsIn K mainGlobals $s))|`(#[K,$x,$s:str])=>`((PySem.W.findIn K (.ref $x) $s=some none))|`(#[0,$s:ident])=>`($(Lean.mkIdent (s.getId++`heap.objs.size)))|`(#[I])=>`(Inv X oq σ H s)|`(#[$f:ident,T])=>`($f (P:=P) (w:=w) (base:=base) T)|`(#[$f:ident,T,C])=>`($f (P:=P) (w:=w) (base:=base) T C)
local macro_rules|`(#[$f:ident,$xs,*])=>do{let a:=xs.getElems;let k:=f.getId.toString++":"++toString a.size;match ("wb:27ab Qv:14a Qh:13a_ qw:49a_bcd____ Q6:32a2_bcA__ xY:14a qo:38abcB qaa:14_a_ qp:14a YH:38CAabc_ qW:22a1bAD_ qy:32a4bADc__ QN:14a qE:15a xg:26Cab qL:37abcE zq:27ab J0:14a Qe:14a_ Jm:693abcdef_____ zW:62aFb9cAdeGf_ qV:38abc qK:38abc qr:597ab_#c$c%cHde___ yQ:48abcd yd:38abc WV:14_a_ qX:49a_bcd____ Y7:491abcd jZ:13a Qq:26IabE pe_and:27ab kK:15a Qj:18JaA jj:39IabcA Qw:5992ab&cdK%cHLe___ QC:498ab&cdK%cHL_ xQ:16a_ kU:25Iab Zy:14a YJ:16_Ma_ Jq:798abc_d%eHfg___ JU:25Iab".splitOn " ").find? (·.startsWith k) with|none=>Lean.Macro.throwUnsupported|some e=>let t:Array Lean.Term:=#[←`(rfl),←`(qx _),←`(uX),←`(Or.inl rfl),←`((λ_ _=>rfl)),←`((1)),←`((λ_ _ _ _ _ _=> @y8 _)),←`(.nil),←`(Qs hr),←`(pv 0),←`(hr.mono ()),←`(qG),←`(T.jX)];let mut r:=#[];let mut q:=Lean.Name.anonymous;for c in (e.drop k.length).toString.toList do{let v:=c.toNat;if v<48 then q:=#[`m,`F.kp,`b,`h][v-35]! else if v<58 then r:=r.push ⟨Lean.Syntax.mkNumLit (toString (v-48))⟩ else if v<91 then r:=r.push t[v-65]! else if v==95 then r:=r.push ⟨Lean.mkNode ``Lean.Parser.Term.hole #[Lean.mkAtom "_"]⟩ else{let x:=a[v-97]!;r:=r.push (if q.isAnonymous then x else Lean.mkIdent (x.raw.getId++q));q:=Lean.Name.anonymous}};`(#[$f:ident,$r,*])}
local macro_rules|`(tactic|exists $es,*)=>do{let a:=es.getElems;match a[0]!.raw.isNatLit? with|some 2=>let b:=a.extract 1 a.size;`(tactic|intro oq s σ H $b*)|some 6=>let x:Lean.Ident:=⟨a[1]!.raw⟩;let y:Lean.Ident:=⟨a[2]!.raw⟩;`(tactic|obtain ⟨$x:ident,$y:ident⟩:=$(a[3]!) X G $(a[4]!) $(a[5]!) (by rfl'))|some 7=>`(tactic|try dsimp only [cxOf,Cx.nox])|some 3=>`(tactic|(refine ⟨_,$(a[1]!),?_⟩;exists 7;exists 4))|some 4=>`(tactic|try (apply cl_i (a:=K) (b:=a);intro _ _))|some 5=>`(tactic|repeat (first|(with_reducible refine gN_ ?_)|(with_reducible refine seq_0 ?_;intro _ _ _)|(with_reducible refine if_C ?_;intro _ _)|(with_reducible refine while_C ?_;intro _ _)|(with_reducible refine for_C ?_;intro _ _)))|some 8=>let x:Lean.Ident:=⟨a[1]!.raw⟩;let y:Lean.Ident:=⟨a[2]!.raw⟩;`(tactic|((first|refine seq_oC ?_|(exists 4;refine seq_oC ?_));intro _ _ $x $y _))|some 9=>let x:=Lean.mkIdent (a[1]!.raw.getId++`F.ok);let y:Lean.Ident:=⟨(a.getD 3 (Lean.mkIdent `hr)).raw⟩;`(tactic|refine $x $(a[2]!) (by trivial) (λ_ _ _ s H _ Q E $y h=>?_))|_=>let h←`(?_);let b:=if a.any fun x=>(x.raw.find? (·.isOfKind `Lean.Parser.Term.syntheticHole)).isSome then a else a.push h;`(tactic|(exists 5;refine ⟨$b,*⟩))}
set_option hygiene true
set_option hygiene false in
local macro_rules | `(tactic| rfl') => `(tactic| first | exact bo1 (fun _ _ _ _ _ _ _ => rfl) | exact bo2 (fun _ _ _ _ _ _ _ _ => rfl) | exact bo3 (fun _ _ _ _ _ _ _ _ _ => rfl) | exact bo4 (fun _ _ _ _ _ _ _ _ _ _ => rfl))
set_option hygiene false in
local macro_rules|`(tactic|rw [$rs,*])=>do{let a:Array Lean.Term:=rs.getElems.map (⟨·.raw[1]⟩);let y:=a[0]!;if (y.raw.isNatLit?).isSome then `(tactic|exists $a,*)else if y.raw.isOfKind `Lean.Parser.Term.hole then{let b:=a.extract 1 a.size;`(tactic|exists $b,*)}else if a.back!.raw.isNatLit? !=some 0 then Lean.Macro.throwUnsupported else `(tactic|first|(exfalso;injection $y;done)|((fail_if_success injection $y with Xx Yy Zz);injection $y with Xx Yy;subst Xx Yy)|((fail_if_success injection $y with Xx Yy);injection $y with Xx;subst Xx)|cases $y:term)}|`(tactic|rw [$rs,*] at $e:ident)=>do{let r:=rs.getElems;if r.back!.raw[1].isNatLit? !=some 0 then Lean.Macro.throwUnsupported else{let r:=r.pop;`(tactic|(rw [$r,*] at $e:ident;rw [$e:ident,0]))}}
local macro_rules|`(tactic|erw [$rs,*])=>do{let rec f (e:Lean.Syntax):Nat->Lean.MacroM (Lean.TSyntax `Lean.Parser.Tactic.rcasesPatLo)|0=>`(Lean.Parser.Tactic.rcasesPatLo|_)|n+1=>do{if e.isIdent then{let x:Lean.Ident:=⟨e⟩;`(Lean.Parser.Tactic.rcasesPatLo|$x:ident)}else{match e with|`([$xs,*])=>do{let mut p:=#[];for x in xs.getElems do{p:=p.push (← f x n)};let q:=p;let t←`(rcasesPat|⟨$q,*⟩);`(Lean.Parser.Tactic.rcasesPatLo|$t:rcasesPat)}|_=>`(Lean.Parser.Tactic.rcasesPatLo|_)}};let mut p:=#[];let mut h:Array Lean.Term:=#[];let mut z:Array Lean.Term:=#[];for r in rs.getElems do{match r with|`(Lean.Parser.Tactic.rwRule|$e:term)=>{if h.size==0 then h:=h.push e else p:=p.push (← f e 9)}|_=>z:=z.push ⟨r.raw[1]⟩};let q:=p;let g:=h[0]!;if z.isEmpty then `(tactic|obtain ⟨$q,*⟩:=$g)else `(tactic|(obtain ⟨$q,*⟩:=$g;exact $(z[0]!)))}
set_option hygiene false in
local macro_rules|`(#[11])=>`(["boxes","own","parts"])|`(#[13])=>`(VD qual scope #[0,s₀] f cd)|`(#[14])=>`(o6->o7->Prop)|`(#[15])=>`(qs.map (·.1))|`(#[16])=>`(oj (o3×Obj))|`(#[17])=>`(ps.map (·.1))|`(#[19])=>`((k==VU&&env.scope.kind== .function&&env.kindOf n==u_ .cell))|`(#[20])=>`(hr.mono ())|`(#[22])=>`(VA (e::es) X.env=(Vt,eval e X.env)::VA es X.env)|`(#[23])=>`(oj (Str×D))
set_option hygiene false in
local macro_rules|`(tactic|rw [12])=>`(tactic|(decide+kernel))|`(tactic|rw [18])=>`(tactic|(all_goals first|rw[A6 rfl]|(rw[A4 ()];first|exact h.ZY|exact h.WS|exact h.YS|exact h.Yc|exact h.Qy|exact h.f_end)|(rw[A4 (λe=>by subst e;revert hm;rw[12])];exact h.meth m hm)))|`(tactic|rw [21])=>`(tactic|(obtain⟨f0,f1,f2,f3,f4,f5⟩:=hf it (by simp)))|`(tactic|rw [24])=>`(tactic|(intro X hP hw hK hc i oq s σ H E I hf st hg))
local macro_rules|`([$a:term : $b:term])=>`(⟨$a,$b⟩)|`([$a:term : $b:term : $c:term])=>`(⟨$a,$b,$c⟩)
set_option hygiene false in
local macro_rules(kind:=Lean.Parser.Command.declaration)|x=>do{let d:=x[1];let h:=x[0];let k:=d.getKind;let s:=d[2][1][0];let p:=fun (n:Lean.Name) (f:Lean.Name) (t:Array Lean.Name)=>Lean.mkNode `Lean.Parser.Term.explicitBinder #[Lean.mkAtom "(",Lean.mkNullNode #[Lean.mkIdent n],Lean.mkNullNode #[Lean.mkAtom ":",if t.isEmpty then Lean.mkIdent f else Lean.mkNode `Lean.Parser.Term.app #[Lean.mkIdent f,Lean.mkNullNode (t.map fun u=>(Lean.mkIdent u).raw)]],Lean.mkNullNode,Lean.mkAtom ")"];let b:=fun l=>Lean.mkNullNode (d[2][0].getArgs++l);if (k==`Lean.Parser.Command.inductive||k==`Lean.Parser.Command.structure)&&x.getPos?.isSome then return x.rewriteBottomUp (·.setInfo .none)else if k==`Lean.Parser.Command.inductive&&s[1].getId==`Sp then return x.setArg 1 (d.setArg 2 (Lean.mkNode d[2].getKind #[b #[p `vs `List #[`V],p `H `Hp #[],p `Q `VK #[],p `E_ `XK #[]],Lean.mkNullNode #[s.setArg 1 (Lean.mkNode `Lean.Parser.Term.prop #[Lean.mkAtom "Prop"])]]))else if k==`Lean.Parser.Command.abbrev then{let y:=x.setArg 0 ((h.setArg 6 Lean.mkNullNode).setArg 4 (Lean.mkNullNode #[Lean.mkNode `Lean.Parser.Command.noncomputable #[Lean.mkAtom "noncomputable"]]));if h[6].getNumArgs>0 then return y else if (h.find? (·.isAtom)).isSome||d[1][0].getId==`VE then Lean.Macro.throwUnsupported else return y.setArg 1 (Lean.mkNode `Lean.Parser.Command.definition #[Lean.mkAtom "def",d[1],d[2],d[3],Lean.mkNullNode])}else if k != `Lean.Parser.Command.definition then Lean.Macro.throwUnsupported else if (h.find? (·.isAtom)).isSome||d[2][1].getNumArgs==0 then Lean.Macro.throwUnsupported else{let t:=s[1];let n:=t[1][0].getId;let o:=t[0].getAtomVal=="#["&&(n==`C||n==`T);let l:=if o then #[p `T `Tx #[`K,`mg,`a]]++(if n==`C then #[p `C `Fx #[`K,`w,`mg,`g,`a]]else #[])else #[];return x.setArg 1 (Lean.mkNode `Lean.Parser.Command.theorem #[Lean.mkAtom "theorem",d[1],Lean.mkNode `Lean.Parser.Command.declSig #[b l,if o then s.setArg 1 (t.setArg 1 (t[1].setArg 0 (Lean.mkIdent `K)))else s],d[3]])}}
local macro_rules|`(-$x:ident)=>`(.ref $x)|`(-$x:str)=>`(.str $x)|`(-[$x,*])=>`(.tup [$x,*])
local macro_rules|`(!$x:ident)=>`(.str $x)
local macro_rules|`(¬$x:ident)=>`(.tup $x)
local macro_rules|`($x>$y)=>`($x∈$y)
local macro_rules|`(($a,$xs,*))=>if xs.getElems.size<3 then Lean.Macro.throwUnsupported else `(⟨$a,$xs,*⟩)
local macro_rules|`(tactic|let $d:letDecl)=>`(tactic|have $d:letDecl)
noncomputable section
set_option Elab.async false
set_option tactic.hygienic false
set_option linter.all false
set_option maxRecDepth 100000
set_option maxHeartbeats 4000000
open PySem.W renaming Frag->o0,mg_of->uO,kia_one->vy,callWith_K->UH
open PySem renaming Addr->o3,Value->o6,Shared->o7,Heap->o8,Program->o9,World->og,Around->oh,wpAny_bind->A8,wpAny_pure->uu,sizeLine_eq->uF,boot_len->uK,wpAny_with_toks->uQ,wpAny_newObj_type->vq,call_meets->vw,wpAny_mono->vz,wpAny_truthy_bool->vA,wpAny_Call_Name_kw->vH,wpAny_field->vI,wpAny_callSpecial?_slot->vJ,mem_of_lookup->vR,typeIs_str->vT,wpAny_call_entry->U7,wpAny_loadPart'->Uc,tupleKind_room_in1->Uj,wpAny_seqItems->Uo,wpAny_passesOwn->Us,wpAny_rule->UB,wpAny_setField_rec->UJ,wpAny_execs_nil->UN,builtinLookup_eq_fast->UV,wpAny_attempt->UZ,wpAny_binaryOp_repeat_ref->V9,wpAny_isInstance->Vb,codeAny_builtin->Vi,wpAny_pyIter_list->Vk,call_meetsIn->Vn,wpAny_newList->Vo,plainId_quiet->Vp,typeIs_int->Vq,wpAny->Vu,sizeLine->Vw,FuncData->Vy,starEach->VA,model->VC,cLine->VI,backTo->VL,compareOp->VM,IsPair->VT,Scope->VV,mainGlobals->VW,wpAny_holding->VX,sysModules->VY,codeAny->G9,binaryOp->Gf,Builtin->Gg,IsZip->Gh,wpAny_typeOf->Gn,bindL->Gq,NameKind->Gu,getItem->Gx,bindC->Gy,unsetMember->GC,IsPart->GD,assignEach->GF,sliceBounds->GG,bootBuiltins->GH,attributeBase->GM,assign->GN,atKey->GO,Result->GP,rawInt->GQ,holding->GS,pyNext->GT,Keyword->GV,Model->GW,callerA->GX,field->GY,bindArgs->GZ,valueAt->Hd,backToKw->He,Meets->Hf,keywordEach->Hg,CmpOp->Hj,stored->Hn,tupleKind->Ho,swapsWith->Ht,BindsTo->Hu,cellsFrom->Hv,typeOf->Hy,wpAny_call->HL,DictEntry->HM,behindInMarks->HN,typeLookup->HP,revObj->HS,limitOf->HV,spliced->HX,Operator->HZ,subscripted->tm,InCallC->tt,codeAny_mono->tF,standAt->tI,newList->tO,closureFor->tU,letOwnedTupleGo->tZ,cellOf->t_,storeName->T2,callType_codes->T4,getMethod->T8,getAttr?->T9,pyIter->Ta,boundAndCalled->Tb,Params->Tc,wpAny_of_eq->Td,getAttrByItsOwn->Ti,checkBuiltinCall->Tj,operate->Tl,wpAny_standAt->Tn,typeLookup_type->To,wpAny_onRaise->Tq,wpAny_load->Tw,noFill_tuple_add->TD,codeAny_call_builtin->TH,wpAny_mkText->TJ,wpAny_letGo->TR,foldedSetIterable->TU,strKind_is->TY,GenState->F0,seqIndex_of->Fa,getAttr->Fe,ItemsOf->Ff,wpAny_execs_cons->Fi,evalPart_none->Fm,builtinsNs->Fv,PlainAttrs->Fw,slicePick->Fz,setItem->FD,wpAny_pyIter_tuple->FG,wpAny_specialOf->FI,wpAny_Name->FL,firstArgMember->FN,newFunctionEnv->FO,wpAny_Call_method->FV,compEnvC->FX,concat_meets->FY,inplaceOp->r6,seqItems?->rc,callWith->rm,seq_tuple_add->rn,leaving->rp,wpAny_assign_Name->rE,sub_tuple_self->rF,wpAny_pyIter_revIter->rL,wpAny_loadName_local->rM,meets_str_split_sep->rN,unbindBehindTheSuite->rR,wpAny_pyIter_zip->rV,isSubtype_type->rY,evalPart_some->Rb,wpAny_getItem_of->Rc,interactive->Rf,wpAny_point->Ro,wpAny_setField->Rp,call_reversed_list->Rr,split_sep_max_tree->Rt,wpAny_pyNext_list_item->Rx,wpAny_Expr_any->Rz,getattributeRaised->RA,wpAny_loadPart->RG,pushCells_keeps->RJ,meets_str_split_not_found->RM,builtinKind->RU,attributeErrorLeaves->RV,wpAny_Slice->RX,wpAny_loadName_cell->pw,wpAny_pyNext_list_end->pA,codeAny_of_tree->pC,wpAny_notIn_of->pE,wpAny_updateSeq_pair->pH,wpAny_throw->pK,wpAny_comprehension_free->pL,wpAny_newTuple->pO,wpAny_Compare1->Pc,wpAny_sequenceKey->Pe,wpAny_getItem_list_slice->Pg,init_tuple_lookup->Ph,listOfItself->Pi,raiseAttrError->Pk,intBits_le_64->Pp,IsRangeIter->Pq,object_init_meets->Pv,wpAny_in_of->Pw,madeHere_tuple->Px,joinFit_length->Py,wpAny_storeName_local->PB,meets_str_split_cannot_occur->PF,wpAny_isTrue_Compare1->PJ,wpAny_Call_method0_late->PM
open List renaming mem_cons->Ab,mem_singleton->Ac,mem_append->Ae,mem_map->Af,mem_filter->Ag,getElem?_eq_some_iff->Ah,length_map->uc,mem_cons_of_mem->ui,mem_cons_self->uj,getElem?_eq_getElem->um,map_cons->ur,length_cons->uw,size_toArray->uz,map_append->uA,length_append->uE,getElem?_map->uG,not_mem_nil->uI,mem_of_getElem?->uL,map_map->uR,find?_cons->uS,mem_append_right->uV,getElem_mem->v9,append_nil->vg,take_of_length_le->vj,take_add_one->vk,lookup_cons->vm,mem_nil_iff->vn,drop_eq_getElem_cons->vt,eq_nil_of_length_eq_zero->vD,all_cons->vK,mem_append_left->vL,take_length->vN,filterMap_cons->vQ,replicate_succ->vU,length_reverse->vV,getElem?_zip_eq_some->vW,nodup_nil->vY,length_filter_le->U0,length_take->U6,filter_cons->U8,all_eq_true->U9,nodup_cons->Ue,length_drop->Ug,length_singleton->Uh,mem_of_find?_eq_some->Up,append_assoc->Ut,filterMap_cons_some->Uu,map_congr_left->Uz,cons_append->UA,getElem?_set_self->UC,drop_of_length_le->UE,find?_eq_none->UK,filter_append->UL,length_replicate->UP,forIn_cons->UQ,map_nil->UR,all_map->US,getElem?_eq_none->UU,any_cons->UX,flatten_cons->UY,sum_cons->V0,getElem?_append_right->V3,getElem?_set_ne->V4,mem_of_mem_take->V7,getElem?_append_left->V8,take_succ_cons->Vd,all_append->Vh,getLast?_cons_cons->Vj,reverse_cons->Vm,replicate->VJ,range->VN,Nodup->VZ,lookup->G7,length->Gi,getD->Hw,map->HK,set->HQ,range'->HU,of_mem_zip->tK,any_map->tL,find?_some->tP,map_id->tQ,drop_zero->Ts,length_nil->TC,take_nil->TL,mem_map_of_mem->TM,cons_lt_cons_iff->TX,any_eq_true->Fc,range_succ->Fk,zipWith_cons_cons->Fn,mem_of_mem_drop->FE,length_range->rg,any_eq_false->rq,take_zero->rB,nodup_append->rG,length_set->rH,eq_nil_or_concat->rJ,foldl->rZ,filter_nil->R7,range_succ_eq_map->Ra,take_append_drop->Rj,countP_mono_left->Rq,mapM_toArray->Ru,concat_eq_append->Ry,all_toArray->RH,getElem?_replicate->RS,take_sublist->RY,fst_mem_of_mem_zipIdx->pk,find?_append->pD,zipIdx_nil->pF,countP_cons->pM,any_toArray->pN,nil_append->pQ,all_nil->pW,find?->pY,forIn_nil->pZ,zipIdx_cons->p_,lt_irrefl->Po,mem_cons->uH,mem_singleton->vv,mem_append->UW
open PySem.Heap renaming get?_push_of_some->ug,get?_push_size->uC,lt_size->uD,size_push->vo,get?_update_other->vO,SameBut->Hz,get?_update_self->T7,FlyingW->FA,get?_none_of_le->Rl
open Bool renaming false_ne_true->uh,and_eq_true->uB,false_eq_true->uY,eq_iff_iff->vF,and_true->Ux,and_self->V1,true->v_,false->Vt,not_true->tN,true_and->Tu,or_eq_true->Tv,or_eq_false_iff->TF,false_and->FH,and_false->F_,false_or->rQ,and_eq_false_iff->pc,not_eq_true'->ph,noConfusion->Pb
open Option.some renaming inj->uJ,injEq->oH
open Nat renaming ne_of_lt->uM,zero_le->uN,le_trans->uP,le_of_lt->vB,lt_irrefl->vC,ne_of_gt->vZ,lt_or_ge->Ua,lt_of_le_of_lt->UI,le_succ->UO,log2_le_self->Vc,le_refl->Vv,lt_of_lt_of_le->VP,zero_add->HY,le_of_eq->tS,lt_trans->TB,le_total->Fg,le_add_right->Fo,succ_pos->Fq,lt_succ_self->Fs,eq_zero_or_pos->FK,add_comm->Re,min_eq_left->RB,mul_comm->RF,sub_zero->RL,one_mul->RO,succ_le_succ->RP,succ_mul->Pd,succ->Pf,add_zero->Pm,add_mul->PK
open PyProof.Rows renaming boot_isinstance->uW,callWith_type1->vf,boot_tuple->vx,slot_tuple_getitem->vS,wpS_pure->vX,boot_str->V2,arrOf->Vz,envOfC->VD,wpS_bind->VG,Keyed->VO,SortSt->VQ,seqObj->gV,mirror->Gb,IsTup->Gr,AllBare->GE,IntsAre->Hk,SortKind->Hr,wpS_get->Hx,sortedS->HJ,wpS_forRange->HR,pendingOf->HW,listItems_at->tT,failedOf->tV,mirror_perm->tY,wpS_mono->T0,tuples'->T1,Call_->T5,Subscript_->Te,subscriptTail->Tg,wpS_reverse->Tp,tail_any->Tz,wpS_lift->TN,boot_dict->Fb,wpS_modify->Fu,listUpdate_at->FC,seqEpoch_at->FS,StrsAre->FT,boot_all->r9,boot_sorted->rf,args_sorted1->rO,subscriptTail_builtinR->rP,tupleItemsOf_->rS,entry_sorted->R6,plain_sorted->RC,args_tuple_getitem->RE,entry_list_sort->RW,entry_tuple_getitem->p9,boot_reversed->pf,slicePart_none->pR,isTrue_plain->Pa,args_list_sort->Pl,kind_sorted->Pn,slot_list_sort->PR,callWith_builtin1->oJ,iadd_int->O8
open PySem.PassesOwn renaming never->uX,leaving->Pz
open PySem.F renaming plainAttrs_str->uZ,plainAttrs_list->vh,entry_str_split->vE,slot_str_split->vM,slot_dict_get->U1,slot_list_append->U3,type_list_append->U4,slot_tuple_iterator_next->Uf,args_str_split_2->Uk,slot_str_join->Ul,type_str_join->Um,plainAttrs_dict->Uw,plain_tuple_new->Uy,entry_dict_get->UD,type_str_split->UG,slot_int_rmul->UT,args_tuple_add_2->Vf,entry_tuple_add->Vg,slot_str_split->UF
open PySem.Around renaming in1_units->vb,under_plainId->V6,under->Fd
open Array renaming length_toList->vi,getElem?_toList->Ui,size_append->TK,toList_append->TV,append_assoc->T_,toList->Fj,size_push->Rh,size_map->Rv
open PySem.Calls renaming spliced_cons->vG,callWith_builtin->vP,spliced_nil->Ub,evalArgs_plain->Ur,call_len_list->rT,Name_function_global->pB
open List.cons renaming injEq->U2
open Int renaming emod_lt_of_pos->U5,emod_nonneg->Ud,toNat_natCast->rh,ediv_one->R9
open Ne renaming symm->Uv
open Sum.inr renaming inj->UM
open Classical renaming byContradiction->Va,choose_spec->pX
open Option renaming some->u_,none->U_,isNone->H_,map_some->tR,isSome_map->Ft,map_eq_none_iff->rC,getD_none->pp,map->Pr,isSome_none->PH
open Sum renaming inr->Vx,inl->GU
open PySem.Value renaming ref->VB,str->G6,type->Gj,none->Gz,int->hZ,bool->T6,float->FW,bytes->R8,isInt->pP,isStrOf->pU
open PySem.Str renaming join->VF,length->GJ,ofString->Hm,empty->Hq
open ToString renaming toString->VH
open PySem.Spec renaming ltCps->VR
open PySem.Txt renaming startswith->VS,slice->GB,mul->rA,slice_le->PN
open PySem.NameKind renaming free->VU,cell->GR
open False renaming elim->V_
open PySem.Builtin.Str renaming strKind->g_,occurrences->tj
open PySem.Obj renaming mapSeq->Ge,data_mapFields->r_,mapFields->RT
open Unit renaming unit->Gk
open PySem.SeqAt renaming EqAt->Gm,RcNeAt->Rm,RcAt->pq,in_tupleAt->PV,in_listAt->PY
open True renaming intro->Go
open ForIn renaming forIn->GK
open Or renaming inr->GL,inl->Hs
open PySem.Builtin.Tuple renaming tupleExact->G_,tupleTooMany->FU,tupleItemsOf->Ri,tupleIsExact->oS
open PySem.StrLaws renaming occBody->h_,partsFrom->Tf,subAt_eq->pS,strSub_toList->pV,joinTotal->P0,occ_eq->Pu,glued_eq_join->PU
open PySem.Builtin.SmallTypes renaming nextOf->Hh,ownedTupleIsFree->Tt,ownedTupleHandOut->RN
open ForInStep renaming yield->Hi
open PyProof.Rows.IsTup renaming new->Hl
open Nat.le renaming dest->tq
open PySem.Builtin.List renaming listItems->tu,listExtendWith->tW,listTooLong->FR,listSameRef->PP,listUpdate->oE,listLengthHint->oT
open PySem.SeqAt.EqAt renaming same->tM,str_int->Fp,int_str->FB,str_str->FQ,int_int->rW,none_int->R1,str_none->RK,int_none->R_,none_str->pT,none_bool->PZ,none_tuple->oB,str_tuple->oK,bool_str->oN,of_refs->oO,bool_int->oQ,bool_bool->oR,tuple_int->oU,str_bool->oW,tuple_none->oY,tuple_str->O0,int_tuple->O3,int_bool->O4,bool_none->O5
open PySem.Builtin.Slice renaming slicePlaces->tX,sliceAdjust->re,sliceApplied->Ps,sliceFields->O2,slicePartIndex->O6
open PySem.Code renaming isFrame->TQ,frames->PX
open PySem.Data renaming seq->TW
open List.Sublist renaming refl->f_,map->rX,append->RZ
open List.Pairwise renaming nil->Fy,map->P_
open LawfulMonad renaming pure_bind->FJ
open List.Perm renaming eq_of_pairwise->rD
open PySem.Walks renaming strAscii->rK,strWide->RQ
open PySem.Bind renaming checkArgs->Rg
open PySem.Heap.IsSliceOf renaming new->Rk
open Prod renaming ext->Rs
open PySem.Builtin.Dict renaming updateFrom->RD,selfAndRest->oG
open Array.Perm renaming refl->RI
open List.Nodup renaming sublist->pd
open PySem.Heap.DictOf renaming new->pG
open PySem.Heap.SameBut renaming update->pI
open PySem.DictEntry renaming refKey->pJ
open PySem.SeqAt.RcAt renaming tuples->Pj,tuple_str->oz,str_str->oP,str_tuple->o_
open PySem.Shared renaming heap->PD
open PySem.Manifest renaming signature?->oo
open PySem.SeqAt.RcNeAt renaming tuple_str->ou,str_str->oC,tuples->O1,str_tuple->O9
open PySem.Value.ref renaming inj->oy
open PySem.Heap.IsList renaming push->oA
open PySem.Heap.Ns1 renaming of_empty->oF
open Function renaming comp->oI
open PySem.MeetsSeq renaming list_pop_last->oV
open PySem.Builtin.Range renaming rangeSize->oX
open PySem.AutoSeq1 renaming list_extend_list_list_0->oZ
open Int.ofNat renaming inj->O7
nonrec abbrev oj:=List
nonrec abbrev om:=Option
abbrev A4:=@if_neg
abbrev A6:=@if_pos
abbrev A9:=@absurd
abbrev Aa:=@congrArg
abbrev ua:=@decide_eq_true
abbrev ub:=@decide_eq_false
abbrev uq:=@of_decide_eq_true
abbrev uT:=@decide_eq_true_eq
abbrev uU:=@or_false
abbrev vc:=@decide_eq_decide
abbrev Uq:=@if_false
abbrev V5:=@if_true
abbrev Ve:=@beq_eq_false_iff_ne
abbrev Vl:=@not_false_eq_true
abbrev Vr:=@beq_iff_eq
abbrev Vs:=@not_or
namespace L2
open PySem PySem.Spec PyProof.Rows
nonrec abbrev Key:=Sum Int Str
abbrev Aq:Key->o6->Bool
 | .inl k,v=>pP k v| .inr x,v=>pU x v
abbrev AgL (w:og):Key->Int
 | .inl k=>hashInt k| .inr x=>hashStr w x
def QA:∀{k:Key}{v:o6},Aq k v=v_->(∃i t,k=GU i/\v=hZ i t)\/(∃x t,k=Vx x/\v=G6 x t)
 | .inl i,v,h=>by
  erw[Value.isInt_shape (k:=i) (v:=v) h,t,e,<-.inl (i,t,1,e)]
 | .inr x,v,h=>by
  erw[Value.isStrOf_shape (x:=x) (v:=v) h,t,e,<-.inr (x,t,1,e)]
def IT (i:Int)(t:Tok):Aq (.inl i) (.int i t)=true:=by simp[Aq,pP]
def IS (x:Str)(t:Tok):Aq (.inr x) (.str x t)=true:=by simp[Aq,pU]
def AdO (a b:Int):decide ((GU a:Key)=GU b)=(a==b):=by
 by_cases e:a=b
 .subst e;simp
 .let h:¬(GU a:Key)=GU b:=λq=>e (Sum.inl.inj q);rw[ub h];exact(beq_eq_false_iff_ne.mpr e).symm
def AdL (a b:Str):decide ((Vx a:Key)=Vx b)=decide (a=b):=by
 by_cases e:a=b
 .subst e;simp
 .let h:¬(Vx a:Key)=Vx b:=λq=>e (UM q);rw[ub h,ub e]
def AdN (a:Int)(b:Str):decide ((GU a:Key)=Vx b)=false:=ub (λq=>nomatch q)
def AdM (a:Str)(b:Int):decide ((Vx a:Key)=GU b)=false:=ub (λq=>nomatch q)
abbrev Qc (prog:o9)(w:og):PySem.KeyKind prog w Key where
 is:=Aq
 hash:=AgL w
 inj:=λv a b ha hb=>by
  rcases QA ha with⟨i,t,rfl,rfl⟩|⟨x,t,rfl,rfl⟩
  .rcases QA hb with⟨j,u,rfl,e⟩|⟨y,u,rfl,e⟩
   .injection e with e1 _;rw[e1]
   .exact nomatch e
  .rcases QA hb with⟨j,u,rfl,e⟩|⟨y,u,rfl,e⟩
   .exact nomatch e
   .injection e with e1 _;rw[e1]
 byValue:=λk v h=>by
  rcases QA h with⟨i,t,rfl,rfl⟩|⟨x,t,rfl,rfl⟩<;>rfl
 pyHash:=λhv h=>by
  rcases QA hv with⟨i,t,rfl,rfl⟩|⟨x,t,rfl,rfl⟩
  .exact wpAny_pyHash_int h
  .exact wpAny_pyHash_str h
 eqBool:=λhu hv h=>by
  rcases QA hu with⟨i,t,rfl,rfl⟩|⟨x,t,rfl,rfl⟩
  .rcases QA hv with⟨j,u,rfl,rfl⟩|⟨y,u,rfl,rfl⟩
   .rw[AdO] at h;exact wpAny_eqBool_int h
   .rw[AdN] at h;exact FB i t y u _ _ _ _ h
  .rcases QA hv with⟨j,u,rfl,rfl⟩|⟨y,u,rfl,rfl⟩
   .rw[AdM] at h;exact Fp x t j u _ _ _ _ h
   .rw[AdL] at h;exact wpAny_eqBool_str h
 «strs»:=λk x t v h=>by
  rcases QA h with⟨i,u,rfl,e⟩|⟨y,u,rfl,e⟩
  .exact nomatch e
  .injection e with e1 _
   subst e1
   cases v<;>rfl
def BE (prog:o9)(w:og)(i:Int)(t:Tok):(Qc prog w).is (.inl i) (.int i t)=true:=IT i t
def wA (prog:o9)(w:og)(x:Str)(t:Tok):(Qc prog w).is (.inr x) (.str x t)=true:=IS x t
inductive V where
 |non|bl (b:Bool)|int (i:Int)|str (x:Str)|byt (b:Array UInt8)|flt (b:UInt64)|ref (a:Addr)|ty (n:String)
 deriving DecidableEq
abbrev ii:V->o6->Prop
 | .non,u=>u=Gz| .bl b,u=>u=T6 b| .int i,u=>∃t,u=hZ i t| .str x,u=>∃t,u=G6 x t| .byt b,u=>∃t,u=R8 b t| .flt b,u=>∃t,u=FW b t| .ref a,u=>u=VB a| .ty n,u=>u=Gj n
nonrec abbrev im:oj V->oj o6->Prop:=Paired ii
variable {xs:oj V}{us:oj o6}
def im.length (r:im xs us):↑xs=↑us:=Paired.length r
def im.get:∀{xs:oj V}{us:oj o6}{i:Nat}{x:V},im xs us->xs[i]? =u_ x->∃u,us[i]? =u_ u/\ii x u
 |_,_,_,_,.nil,e=>by simp at e|_,_,0,_,.cons r _,e=>by simp at e;subst e;exact[0:r]|_,_,i+1,x,.cons _ t,e=>by
  obtain⟨u,h1,h2⟩:=im.get (i:=i) (x:=x) t (by simpa using e)
  exact⟨u,by simpa using h1,h2⟩
def im.set {x:V}{u:o6}(r:ii x u):∀{xs:oj V}{us:oj o6} (i:Nat),im xs us->im (xs.set i x) (us.set i u)
 |_,_,_,.nil=> .nil|_,_,0,.cons _ t=> .cons r t|_,_,i+1,.cons q t=> .cons q (im.set r i t)
def im.append:∀{xs ys:oj V}{us ws:oj o6},im xs us->im ys ws->im (xs++ys) (us++ws)
 |_,_,_,_,.nil,s=>s|_,_,_,_,.cons r t,s=> .cons r (im.append t s)
def im.take:∀{xs:oj V}{us:oj o6} (n:Nat),im xs us->im (xs.take n) (us.take n)
 |_,_,0,_=> .nil|_,_,_+1,.nil=> .nil|_,_,n+1,.cons r t=> .cons r (im.take n t)
def im.drop:∀{xs:oj V}{us:oj o6} (n:Nat),im xs us->im (xs.drop n) (us.drop n)
 |_,_,0,r=>r|_,_,_+1,.nil=> .nil|_,_,n+1,.cons _ t=>im.drop n t
abbrev nY:om V->om o6->Prop
 |some v,u_ u=>ii v u|none,U_=>True|_,_=>False
abbrev KV {κ:Type}:oj (κ×V)->oj (κ×o6)->Prop:=Paired λ(p:κ×V) (q:κ×o6)=>p.1=q.1/\ii p.2 q.2
abbrev kV:Key->V
 | .inl i=> .int i| .inr x=> !x
inductive HO where
 |lst (xs:List V)
 |tup (xs:List V)
 |dK (kvs:List (Key×V))|dT (kvs:List (List Key×V))
 |set (S:Int->Bool)(n:Nat)
 |ins (C dx:Addr)(fs:List (Str×V))
 |own (x:Addr)
 |xd (fs:List (Str×V))
 |met (f x:Addr)
 |rng (lo hi:Int)
 |frz (o:Obj)(u:HO)
 |tbl (ps:Array o6)
 |ext (φ:Heap->Prop)
nonrec abbrev Hp:=o3->om HO
abbrev upd (H:Hp)(a:o3)(o:HO):Hp:=λb=>if b=a then u_ o else H b
variable {H:Hp}{a:o3}
def qg {o:HO}:upd H a o a=u_ o:=by unfold upd;rw[A6 rfl]
variable {b:o3}
def qk {o:HO}(h:b≠a):upd H a o b=H b:=by unfold upd;rw[A4 h]
def Afm {o u:HO}(h:H a=u_ o)(h':H b=u_ u)(d:o≠u):a≠b:=by
 intro e;subst e;rw[h] at h';exact d (uJ h')
def qi {o:HO}(h:H a=u_ o)(h':H b=U_):a≠b:=by
 intro e;subst e;rw[h] at h';rw[h',0]
section
variable (P:o9)(w:og)
abbrev QT (H:Hp)(h:o8)(a:o3):HO->Prop
 | .lst xs=>↑xs<=Vw/\∃(its:oj o6) (n:Nat),im xs its/\h.get? a=u_ {cls:= .type "list",data:= .seq its.toArray n}| .tup xs=>↑xs<=Vw/\∃its:oj o6,im xs its/\Gr h a its.toArray| .dK kvs=>↑kvs<=Vw/\(a==VY)=Vt/\∃vs,KV kvs vs/\h.DictOf (Qc P w) a vs| .dT kvs=>↑kvs<=Vw/\(a==VY)=Vt/\∃xs:oj (oj Key×o3×o6),
   Paired (λ(p:oj Key×V) (q:oj Key×o3×o6)=>p.1=q.1/\H q.2.1=u_ (.tup (p.1.map kV))/\ii p.2 q.2.2) kvs xs/\
   ∃o es ep,h.get? a=u_ o/\o.ExactDict/\o.data= .dict es ep/\es.toList=xs.map (entryOfKey (Ho (Qc P w)))/\(xs.map (·.1)).Nodup
 | .set S n=>h.SetOf (intKind P w) a S n| .ins C dx fs=>H dx=u_ (.own a)/\↑fs<=1000/\dx≠a/\h.get? a=u_ (PySem.W.instObj C dx)/\
   ∃mA,h.Ns1 dx mA/\(∀f,nY (fs.lookup f) (mA f))/\PySem.Within mA (fs.map (·.1))
 | .own _=>∃o,h.get? a=u_ o| .xd fs=>∃mA,h.Ns1 a mA/\∀f,nY (fs.lookup f) (mA f)| .rng lo hi=>∃t u v,h.get? a=u_ {cls:= .type "range",data:= .fields #[.int lo t,.int hi u,.int 1 v]}| .frz o u=>h.get? a=u_ o/\QT H h a u| .tbl ps=>h.get? a=u_ {cls:= .none,data:= .fields ps}| .met f x=>h.get? a=u_ (PySem.W.methodObj (-f) (-x))| .ext φ=>φ h/\(∃o,h.get? a=u_ o)/\∀h1 h2:o8,φ h1->(∀o,h1.get? a=u_ o->h2.get? a=u_ o)->φ h2
abbrev HOk (H:Hp)(h:o8):Prop:=∀a o,H a=u_ o->QT P w H h a o
end
section
variable {P:o9}{w:og}{H H':Hp}{h h':o8}{a:o3}{o:HO}
def QT.lt (x:QT P w H h a o):a<h.objs.size:=by
 cases o with
 |lst xs=>erw[x,_,_,_,_,e,<-uD e]|tup xs=>erw[x,_,_,_,p,<-p.lt]|dK kvs=>erw[x,_,_,_,_,o,_,_,e,_,<-uD e]|dT kvs=>erw[x,_,_,_,_,o,_,_,e,_,<-uD e]|set S n=>erw[x,o,_,_,_,e,_,<-uD e]|ins C dx fs=>erw[x,_,_,_,e,_,<-uD e]|own y=>erw[x,_,e,<-uD e]|xd fs=>erw[x,_,[_,_,_,e,_],_,<-uD e]|rng lo hi=>erw[x,_,_,_,e,<-uD e]|frz ob u=>erw[x,e,_,<-uD e]|tbl ps=>exact uD (show h.get? a=u_ _ from x)|met f y=>exact uD (show h.get? a=u_ _ from x)|ext φ=>erw[x,_,[_,e],_,<-uD e]
def Paired.mapP {α β:Type}{F G:α->β->Prop}:∀{l₁:oj α}{l₂:oj β},Paired F l₁ l₂->(∀a b,F a b->G a b)->Paired G l₁ l₂
 |_,_,.nil,_=> .nil|_,_,.cons r t,f=> .cons (f _ _ r) (Paired.mapP t f)
def QT.stay (x:QT P w H h a o)(k:∀b u,(b=a\/H b=u_ (.own a))->h.get? b=u_ u->h'.get? b=u_ u)
  (O:∀b,H b=u_ (.own a)->H' b=u_ (.own a)) (U:∀b xs,H b=u_ (¬xs)->H' b=u_ (¬xs)):QT P w H' h' a o:=by
 induction o with
 |lst xs=>erw[x,z,its,n,r,e,<-(z,its,n,r,k _ _ (.inl rfl) e)]|tup xs=>erw[x,z,its,r,ob,e,c,<-(z,its,r,ob,k _ _ (.inl rfl) e,c)]|dK kvs=>erw[x,z,y,vs,r,ob,es,ep,e,c,<-(z,y,vs,r,ob,es,ep,k _ _ (.inl rfl) e,c)]|dT kvs=>
  erw[x,z,y,xs,r,ob,es,ep,e,c,<-(z,y,xs,Paired.mapP r λp q z=>[z.1:U _ _ z.2.1:z.2.2],ob,es,ep,k _ _ (.inl rfl) e,c)]
 |set S n=>erw[x,ob,es,ep,t,e,c,<-(ob,es,ep,t,k _ _ (.inl rfl) e,c)]|ins C dx fs=>
  erw[x,d,z,ne,e,mA,[od,es,ep,e2,c],r,<-(O _ d,z,ne,k _ _ (.inl rfl) e,mA,(od,es,ep,k _ _ (.inr d) e2,c),r)]
 |own y=>erw[x,ob,e,<-[ob:k _ _ (.inl rfl) e]]|xd fs=>erw[x,mA,[od,es,ep,e,c],r,<-[mA:(od,es,ep,k _ _ (.inl rfl) e,c):r]]|rng lo hi=>erw[x,t,u,v,e,<-(t,u,v,k _ _ (.inl rfl) e)]|frz ob u ih=>erw[x,e,q,<-[k _ _ (.inl rfl) e:ih q]]|tbl ps=>
  let e:h.get? a=u_ {cls:= .none,data:= .fields ps}:=x;show h'.get? a=u_ {cls:= .none,data:= .fields ps};exact k a _ (.inl rfl) e
 |met f y=>
  let e:h.get? a=u_ (PySem.W.methodObj (-f) (-y)):=x;show h'.get? a=u_ (PySem.W.methodObj (-f) (-y));exact k a _ (.inl rfl) e
 |ext φ=>erw[x,p,[o,e],st,<-[st _ _ p λo q=>k _ _ (.inl rfl) q:[o:k _ _ (.inl rfl) e]:st]]
def HOk.lt (x:HOk P w H h)(e:H a=u_ o):a<h.objs.size:=(x a o e).lt
def HOk.fresh (x:HOk P w H h)(e:h.objs.size<=a):H a=none:=by
 cases q:H a with
 |none=>rfl|some u=>exact A9 (VP (x.lt q) e) (vC _)
def HOk.kept (x:HOk P w H h)(k:∀b u,h.get? b=u_ u->h'.get? b=u_ u):HOk P w H h':=λa o e=>
 (x a o e).stay (λb u _ q=>k b u q) (λ_ q=>q) λ_ _ q=>q
def HOk.laid (x:HOk P w H h)(k:∀b u,h.get? b=u_ u->h'.get? b=u_ u)(U:h.objs.size<=a)(new:QT P w (upd H a o) h' a o):HOk P w (upd H a o) h':=λb u e=>by
 let hn:=x.fresh U;by_cases O:b=a
 .subst O;rw[qg,0] at e;exact new
 .rw[qk O] at e;exact(x b u e).stay (λc v _ q=>k c v q) (λc q=>by rwa[qk (qi q hn)]) λc xs q=>by rw[qk (qi q hn)];exact q
end
abbrev Rd (H:Hp)(a:o3)(u:HO):Prop:=H a=u_ u\/∃o,H a=u_ (.frz o u)
def Rd.of {u:HO}(h:H a=u_ u):Rd H a u:= .inl h
variable {w:og}{h:o8}
def Rd.ok {P:o9}{u:HO}(r:Rd H a u)(x:HOk P w H h):QT P w H h a u:=by
 rcases r with r|⟨o,r⟩
 .exact x a u r
 .erw[x a _ r,_,q,<-q]
abbrev Mut:om HO->Prop
 |some (.lst _)=>True|some (.dK _)=>True|some (.dT _)=>True|some (.set _ _)=>True|some (.ins _ _ _)=>True|some (.ext _)=>True|_=>False
section
variable {P:o9}{w:og}{H:Hp}{h h':o8}{x e:o3}{o':HO}
def HOk.write (ok:HOk P w H h)(mu:Mut (H x))(he:e=x\/H e=u_ (.own x))(k:∀b u,b≠e->h.get? b=u_ u->h'.get? b=u_ u)(ac:∃u,h'.get? e=u_ u)
  (new:QT P w (upd H x o') h' x o'):HOk P w (upd H x o') h':=λb u q=>by
 let U:∀c y,H c=u_ (.own y)->c≠x:=λc y r z=>by subst z;rwa[r] at mu
 let aa:∀c xs,H c=u_ (¬xs)->c≠x:=λc xs r z=>by subst z;rwa[r] at mu
 by_cases hb:b=x
 .subst hb;rw[qg,0] at q;exact new
 .rw[qk hb] at q;by_cases O:b=e
  .let q':H b=u_ (.own x):=by
    rcases he with z|z
    .exact A9 (O.trans z) hb
    .rwa[O]
   rw[q] at q';rw[q',0];erw[ac,v,hv,<-⟨v,by rwa[O]⟩]
  .refine(ok b u q).stay (λc v hc r=>k c v ?_ r) (λc r=>by rwa[qk (U c b r)]) λc xs r=>by rwa[qk (aa c xs r)]
   rcases hc with rfl|hc
   .exact O
   .rintro rfl;rcases he with z|z
    .exact U c b hc z
    .rw[hc,0] at z;exact hb rfl
end
structure Un (fs ex:oj o3)(H H':Hp)(h h':o8):Prop where
 keep:∀b o,h.get? b=u_ o->H b=U_->b∉fs->b∉ex->h'.get? b=u_ o
 slot:∀b o,h.get? b=u_ o->H b=U_->b>fs->b∉ex->∃sl,h'.get? b=u_ {o with slots:=sl}
 free:∀b o,h.get? b=u_ o->H b=U_->b∉ex->H' b=U_
 there:∀b o,h.get? b=u_ o->b∉ex->∃o',h'.get? b=u_ o'
 tups:∀b xs,H b=u_ (¬xs)->H' b=u_ (¬xs)
 frzs:∀b o u,H b=u_ (.frz o u)->H' b=u_ (.frz o u)
 tbls:∀b ps,H b=u_ (.tbl ps)->∃more,H' b=u_ (.tbl (ps++more))
section
variable {fs fs' ex ex':oj o3}{H H1 H2:Hp}{h h1 h2 h':o8}{a x e:o3}{o:HO}
def Un.any (u:Un fs ex H H1 h h1){ob:Obj}(q:h.get? b=u_ ob)(n:H b=U_)(O:b∉ex):∃sl,h1.get? b=u_ {ob with slots:=sl}:=by
 by_cases U:b>fs
 .exact u.slot b ob q n U O
 .exact[ob.slots:u.keep b ob q n U O]
def Un.trans (a:Un fs ex H H1 h h1)(b:Un fs ex H1 H2 h1 h2):Un fs ex H H2 h h2 where
 keep:=λc ob q n hc O=>b.keep c ob (a.keep c ob q n hc O) (a.free c ob q n O) hc O
 slot:=λc ob q n hc O=>by
  erw[a.slot c ob q n hc O,sl,U];erw[b.slot c _ U (a.free c ob q n O) hc O,aa,e2,<-[aa:e2]]
 free:=λc ob q n O=>by
  erw[a.there c ob q O,o',U,<-b.free c o' U (a.free c ob q n O) O]
 there:=λc ob q O=>by
  erw[a.there c ob q O,o',U,<-b.there c o' U O]
 tups:=λc xs q=>b.tups c xs (a.tups c xs q)
 frzs:=λc ob xs q=>b.frzs c ob xs (a.frzs c ob xs q)
 tbls:=λc ps q=>by
  erw[a.tbls c ps q,m1,U];erw[b.tbls c _ U,m2,e2,<-⟨m1++m2,by rw[e2,T_]⟩]
def Un.kept (k:∀b u,h.get? b=u_ u->h'.get? b=u_ u):Un fs ex H H h h':=
 (λb ob q _ _ _=>k b ob q,λb ob q _ _ _=>[ob.slots:k b ob q],λ_ _ _ n _=>n,λb ob q _=>[ob:k b ob q],λ_ _ q=>q,λ_ _ _ q=>q,λ_ ps q=>⟨#[],by rw[q];simp⟩)
def Un.refl:Un fs ex H H h h:=Un.kept λ_ _ q=>q
def Un.laid (k:∀b u,h.get? b=u_ u->h'.get? b=u_ u)(O:h.objs.size<=a)(hn:H a=U_):Un fs ex H (upd H a o) h h' where
 keep:=λb u q _ _ _=>k b u q
 slot:=λb u q _ _ _=>[u.slots:k b u q]
 free:=λb u q n _=>by rwa[qk (uM (VP (uD q) O))]
 there:=λb u q _=>[u:k b u q]
 tups:=λb xs q=>by rwa[qk (qi q hn)]
 frzs:=λb u xs q=>by rwa[qk (qi q hn)]
 tbls:=λb ps q=>⟨#[],by rw[qk (qi q hn),q];simp⟩
def Un.write (mu:Mut (H x))(he:e=x\/H e=u_ (.own x))(k:∀b u,b≠e->h.get? b=u_ u->h'.get? b=u_ u)(U:∃u,h'.get? e=u_ u):Un fs ex H (upd H x o) h h':=by
 let hx:∀b,H b=U_->b≠x:=λb n z=>by subst z;rwa[n] at mu
 let hb:∀b,H b=U_->b≠e:=λb n z=>by
  subst z;rcases he with r|r
  .exact hx b n r
  .rw[n,0] at r
 let hm:∀b u,H b=u_ u->¬Mut (u_ u)->b≠x:=λb u q nm z=>by subst z;rw[q] at mu;exact nm mu
 refine(λb u q n _ _=>k b u (hb b n) q,λb u q n _ _=>[u.slots:k b u (hb b n) q],λb u q n _=>by rwa[qk (hx b n)],λb u q _=>?_,
  λb xs q=>by rwa[qk (hm b _ q λz=>z)],λb u xs q=>by rwa[qk (hm b _ q λz=>z)],λb ps q=>⟨#[],by rw[qk (hm b _ q λz=>z),q];simp⟩)
 by_cases O:b=e
 .subst O;exact U
 .exact[u:k b u O q]
end
abbrev trk (h:o8)(H:Hp):oj o3:=(VN h.objs.size).filter λa=>(H a).isSome
abbrev NR (h:o8)(H:Hp):o8:=PySem.W.hideAll h (trk h H)
def Lh (h:o8)(H:Hp):(NR h H).objs.size=h.objs.size:=PySem.W.hideAll_size _ _
variable {o:Obj}
def NQ (e:h.get? b=u_ o)(n:H b=U_):(NR h H).get? b=u_ o:=
 PySem.W.hideAll_get _ e λhm=>by
  let q:(H b).isSome=true:=(Ag.mp hm).2;rw[n] at q;simp at q
def Abk (e:(NR h H).get? b=u_ o):h.get? b=u_ o/\H b=none:=by
 let O:h.get? b=u_ o:=PySem.W.of_hideAll (trk h H) e;rw[_,O];cases q:H b with
 |none=>rfl|some x=>
  let hm:b>trk h H:=Ag.mpr ⟨List.mem_range.mpr (uD O),by simp[q]⟩
  let z:(NR h H).get? b=none:=PySem.W.hideAll_none (trk h H) hm;rw[z,0] at e
structure Mod (K:o0)(mg:Str->om o6)(base:o8):Prop where
 kin:K.In base
 glob:base.Ns VW mg
 blt:∃mb,base.Ns Fv mb/\∀x:Str,x≠"__name__"->mb x=GH x
 nolimit:base.NoLimit
structure Cx where
 prog:o9
 w:og
 K:o0
 mg:Str->om o6
 base:o8
 A:oh
 N:oj Str
 s₀:o7
 H₀:Hp
 env:Env
 outer:oj Env
 stack:oj Env
 ex:oj o3
 fn:Str->Bool
 calm:Bool
 pn:#[16]
 xe:#[14]
abbrev frs (l:oj Env):oj o3:=l.filterMap (·.frame)
nonrec abbrev Cx.fs (X:Cx):oj o3:=frs X.outer
abbrev Vis (sc:VV)(x:Str):Prop:=sc.names.lookup x=u_ .local\/sc.names.lookup x=u_ .cell\/sc.names.lookup x=u_ .free
abbrev Loc (sc:VV)(x:Str):Prop:=sc.names.lookup x=u_ .local\/sc.names.lookup x=u_ .cell
abbrev AgT (env:Env)(h:o8)(m:Str->om o6)(x:Str)(u:o6):Prop:=
 (env.kindOf x=u_ .local/\m x=u_ u)\/((env.kindOf x=u_ .cell\/env.kindOf x=u_ .free)/\∃c,env.cells.lookup x=u_ c/\h.IsCell c (u_ u))
structure Cx.Ok (X:Cx):Prop where
 mod:Mod X.K X.mg X.base
 kind:X.env.scope.kind= .function
 glob:X.env.globals=VW
 blt:X.env.builtins=Fv
 above:X.s₀.heap.objs.size<=X.env.locals
 inj:∀x y c,X.env.cells.lookup x=u_ c->X.env.cells.lookup y=u_ c->x=y
 has:∀x,(X.env.kindOf x=u_ .cell\/X.env.kindOf x=u_ .free)->∃c,X.env.cells.lookup x=u_ c
 cab:∀x c,X.fn x=v_->X.env.cells.lookup x=u_ c->X.s₀.heap.objs.size<=c
 hd:X.calm=v_->X.A.handled=U_
 frames:X.A.frames=u_ X.stack
 stk:X.stack=X.outer\/(X.stack=X.env::X.outer/\X.env.frame=u_ X.env.locals)
 exf:∀b>X.ex,b≠X.env.locals/\∀x c,X.env.cells.lookup x=u_ c->c≠b
 bs:∀b o,X.base.get? b=u_ o->X.s₀.heap.get? b=u_ o/\X.H₀ b=U_
 bsz:X.base.objs.size<=X.s₀.heap.objs.size
 noex:∀b o,X.base.get? b=u_ o->b∉X.ex
 exfs:∀b>X.ex,b∉X.fs
 funs:X.s₀.heap.FunFrames X.base X.outer
 frf:∀b>X.fs,X.H₀ b=U_
structure Inv (X:Cx)(oq:#[16])(σ:oj (om V))(H:Hp)(s:o7):Prop where
 ok:X.Ok
 os:s.os=X.s₀.os
 bare:GE s.gens
 base:Un X.fs X.ex X.H₀ H X.s₀.heap s.heap
 loc:∃m,s.heap.Ns X.env.locals m/\∀(i:Nat) (x:Str) (v:V),X.N[i]? =u_ x->σ[i]? =u_ (u_ v)->Vis X.env.scope x->∃u,ii v u/\AgT X.env s.heap m x u
 cell:∀x c,X.env.cells.lookup x=u_ c->∃v,s.heap.IsCell c v
 free:H X.env.locals=U_
 freeC:∀x c,X.env.cells.lookup x=u_ c->H c=U_
 pin:∀p>X.pn++oq,s.heap.get? p.1=u_ p.2/\H p.1=U_/\p.1≠X.env.locals/\p.1∉X.fs/\∀v,p.2.data≠ .cell v
 hok:HOk X.prog X.w H s.heap
 len:↑σ=↑X.N
 tk:0<s.toks
section
variable {X:Cx}{oq:#[16]}{σ:oj (om V)}{H H':Hp}{s:o7}{h':o8}
def Cx.Ok.nofr (ok:X.Ok)(e:X.base.get? b=u_ o):b∉X.fs:=λO=>by
 have:=(ok.funs.mem O).1;rw[e,0] at this
def Inv.bs (I:#[I]):∀b o,X.base.get? b=u_ o->s.heap.get? b=u_ o/\H b=none:=λb o e=>
 [I.base.keep b o (I.ok.bs b o e).1 (I.ok.bs b o e).2 (I.ok.nofr e) (I.ok.noex b o e):I.base.free b o (I.ok.bs b o e).1 (I.ok.bs b o e).2 (I.ok.noex b o e)]
def Inv.bk (I:#[I]):∀b o,X.base.get? b=u_ o->s.heap.get? b=u_ o:=λb o e=>(I.bs b o e).1
def Inv.mod (I:#[I]):Mod X.K X.mg X.base:=I.ok.mod
def Inv.kIn (I:#[I]):X.K.In s.heap:=I.ok.mod.kin.keeps I.bk
def Inv.lt (I:#[I]):X.env.locals<#[0,s]:=let⟨_,hn,_⟩:=I.loc;hn.lt
def Inv.sz (I:#[I]):X.s₀.heap.objs.size<=#[0,s]:=uP I.ok.above (vB I.lt)
def Inv.nofs (I:#[I])(h:#[0,s]<=a):a∉X.fs:=λO=>by
 erw[I.ok.funs.mem O,_,o,U,_,<-A9 (VP (uD U) (uP I.sz h)) (vC _)]
def Inv.cne (I:#[I]):∀x c,X.env.cells.lookup x=u_ c->c≠X.env.locals:=λx c e z=>by
 erw[I.cell x c e,v,o,ho,hd];erw[I.loc,m,[o',es,ep,O,U,_],_];rw[z,O,0] at ho;rw[U,0] at hd
def Inv.funs (I:#[I]):s.heap.FunFrames X.base X.outer:=by
 let all:∀(l:oj Env),(∀b>frs l,b>X.fs)->X.s₀.heap.FunFrames X.base l->s.heap.FunFrames X.base l:=by
  intro l
  induction l with
  |nil=>intro _ _;trivial|cons env r ih=>
   intro hs hl;erw[hl,hk,[L,o,O,hn,ho,hd],hr];let U:L>X.fs:=hs L (by unfold frs;rw[vQ,O];exact uj)
   obtain⟨sl,e⟩:=I.base.slot L o ho (I.ok.frf L U) U λz=>I.ok.exfs L z U;exact⟨hk,(L,_,O,hn,e,hd),ih (λb hb=>hs b (by unfold frs;rw[vQ,O];exact ui _ hb)) hr⟩
 exact all X.outer (λ_ hb=>hb) I.ok.funs
def Inv.stack (I:#[I]):s.heap.FunFrames X.base X.stack:=by
 rcases I.ok.stk with e|⟨e,O⟩
 .rw[e];exact I.funs
 .rw[e];erw[I.loc,m,hn,_];refine .cons (by rw[I.ok.kind];decide) O hn ?_ I.funs
  exact Rl (uP I.ok.bsz I.ok.above)
def Inv.stkSub (I:#[I]):∀b>frs X.stack,b>X.env.locals::X.fs:=λb O=>by
 rcases I.ok.stk with e|⟨e,U⟩
 .rw[e] at O;exact ui _ O
 .rw[e] at O;unfold frs at O;rwa[vQ,U] at O
def Inv.stkFree (I:#[I]):∀b>frs X.stack,H b=none:=λb O=>by
 rcases Ab.mp (I.stkSub b O) with e|O
 .rw[e];exact I.free
 .erw[I.ok.funs.mem O,_,o,U,_,<-I.base.free b o U (I.ok.frf b O) λz=>I.ok.exfs b z O]
def Inv.step {g':Array F0}{t':Nat}{d':Drawn}{ch:oj o3}(I:#[I])
  (U:∀b>ch,(b>X.ex\/X.s₀.heap.objs.size<=b)/\b≠X.env.locals/\(∀x c,X.env.cells.lookup x=u_ c->c≠b)/\∀p>X.pn++oq,p.1≠b)
  (keep:∀b o,b≠X.env.locals->b∉X.fs->b∉ch->s.heap.get? b=u_ o->H b=U_->h'.get? b=u_ o)
  (slot:∀b o,b≠X.env.locals->b>X.fs->b∉ch->s.heap.get? b=u_ o->H b=U_->∃sl,h'.get? b=u_ {o with slots:=sl}) (free:∀b o,b∉ch->s.heap.get? b=u_ o->H b=U_->H' b=U_)
  (there:∀b o,b∉ch->s.heap.get? b=u_ o->∃o',h'.get? b=u_ o')
  (tups:∀b xs,H b=u_ (¬xs)->H' b=u_ (¬xs)) (frzs:∀b o u,H b=u_ (.frz o u)->H' b=u_ (.frz o u)) (tbls:∀b ps,H b=u_ (.tbl ps)->∃more,H' b=u_ (.tbl (ps++more)))
  (ns:∀m,s.heap.Ns X.env.locals m->h'.Ns X.env.locals m) (hok:HOk X.prog X.w H' h') (hg:GE g') (ht:0<t':=by ac_rfl):
  Inv X oq σ H' {s with heap:=h',gens:=g',drawn:=d',toks:=t'}:=by
 let ae:∀b o,X.s₀.heap.get? b=u_ o->b≠X.env.locals:=λb o e=>uM (VP (uD e) I.ok.above);let ad:∀b o,X.s₀.heap.get? b=u_ o->b∉X.ex->b∉ch:=λb o e O hb=>by
  rcases(U b hb).1 with z|z
  .exact O z
  .exact A9 (VP (uD e) z) (vC _)
 let aa:∀x c,X.env.cells.lookup x=u_ c->∀v,s.heap.IsCell c v->h'.IsCell c v:=λx c e v ⟨o,ho,hd⟩=>by
  let ac:c∉ch:=λz=>(U c z).2.2.1 x c e rfl;by_cases hc:c>X.fs
  .erw[slot c o (I.cne x c e) hc ac ho (I.freeC x c e),sl,q,<-[_:q:hd]]
  .exact[o:keep c o (I.cne x c e) hc ac ho (I.freeC x c e):hd]
 rw[_,I.ok,I.os,hg,(λb o e n hb O=>?_,λb o e n hb O=>?_,λb o e n O=>?_,λb o e O=>?_,λb xs e=>tups b xs (I.base.tups b xs e),λb o xs e=>frzs b o xs (I.base.frzs b o xs e),λb ps e=>?_),?_,λx c e=>?_,?_,λx c e=>?_,λp hp=>?_,hok,I.len,ht]
 .exact keep b o (ae b o e) hb (ad b o e O) (I.base.keep b o e n hb O) (I.base.free b o e n O)
 .erw[I.base.slot b o e n hb O,sl,e1];erw[slot b _ (ae b o e) hb (ad b o e O) e1 (I.base.free b o e n O),af,e2,<-[af:e2]]
 .erw[I.base.there b o e O,o',e1,<-free b o' (ad b o e O) e1 (I.base.free b o e n O)]
 .erw[I.base.there b o e O,o',e1,<-there b o' (ad b o e O) e1]
 .erw[I.base.tbls b ps e,m1,e1];erw[tbls b _ e1,m2,e2,<-⟨m1++m2,by rw[e2,T_]⟩]
 .erw[I.loc,m,hn,hl];rw[_,m,ns m hn,λi x v e1 e2 e3=>?_];erw[hl i x v e1 e2 e3,u,r,l];rw[_,u,r];rcases l with l|⟨k,c,e,z⟩
  .exact .inl l
  .exact .inr (k,c,e,aa x c e _ z)
 .erw[I.cell x c e,v,z,<-[v:aa x c e v z]]
 .erw[I.loc,m,[o,_,_,ho,_],_,<-free _ o (λz=>(U _ z).2.1 rfl) ho I.free]
 .erw[I.cell x c e,v,o,ho,hd,<-free c o (λz=>(U c z).2.2.1 x c e rfl) ho (I.freeC x c e)]
 .erw[I.pin p hp,e,n,ne,nf,d];let ac:p.1∉ch:=λz=>(U p.1 z).2.2.2 p hp rfl;exact(keep p.1 p.2 ne nf ac e n,free p.1 p.2 ac e n,ne,nf,d)
variable {t':Nat}
def Inv.un (I:#[I])(u:Un X.fs [] H H' s.heap h')(hok:HOk X.prog X.w H' h')(ht:0<t':=by ac_rfl):Inv X oq σ H' {s with heap:=h',toks:=t'}:=by
 erw[id I.loc,m,[o,es,ep,ho,r],_];obtain⟨sl,hL⟩:=u.any ho I.free (by simp)
 exact I.step (g':=s.gens) (d':=s.drawn) (ch:= []) (λ_ z=>nomatch z) (λb o _ U _ e n=>u.keep b o e n U (by simp)) (λb o _ U _ e n=>u.slot b o e n U (by simp)) (λb o _ e n=>u.free b o e n (by simp)) (λb o _ e=>u.there b o e (by simp)) u.tups u.frzs u.tbls (λm' hm=>by
  erw[hm,o',aa,ac,O,r'];rw[ho,0] at O;exact(_,aa,ac,hL,r')) hok I.bare
def Inv.call {g':Array F0}{t':Nat}{d':Drawn}{ch:oj o3}(I:#[I])(u:Un (frs X.stack) ch H H' s.heap h')(hok:HOk X.prog X.w H' h')(hg:GE g')
  (U:∀b>ch,(b>X.ex\/X.s₀.heap.objs.size<=b)/\b≠X.env.locals/\(∀x c,X.env.cells.lookup x=u_ c->c≠b)/\∀p>X.pn++oq,p.1≠b) (ht:0<t':=by ac_rfl):
  Inv X oq σ H' {s with heap:=h',gens:=g',drawn:=d',toks:=t'}:=by
 erw[id I.loc,m,[o,es,ep,ho,r],_];obtain⟨sl,hL⟩:=u.any ho I.free λz=>(U _ z).2.1 rfl;exact I.step (ch:=ch) U (λb o hL hb O e n=>u.keep b o e n (λz=>(Ab.mp (I.stkSub b z)).elim hL hb) O) (λb o _ _ O e n=>u.any e n O) (λb o O e n=>u.free b o e n O) (λb o O e=>u.there b o e O) u.tups u.frzs u.tbls (λm' hm=>by
  erw[hm,o',ac,ad,aa,r'];rw[ho,0] at aa;exact(_,ac,ad,hL,r')) hok hg
def Inv.turned {t':Nat}{it:o3}(I:#[I])(k:∀b o,b≠it->s.heap.get? b=u_ o->h'.get? b=u_ o)(hn:H it=U_)(hL:it≠X.env.locals)
  (h1:it>X.ex\/X.s₀.heap.objs.size<=it) (h2:∀x c,X.env.cells.lookup x=u_ c->c≠it) (h3:∀p>X.pn++oq,p.1≠it) (ht:0<t':=by ac_rfl):Inv X oq σ H {s with heap:=h',toks:=t'}:=by
 let U:∀b u,H b=u_ u->b≠it:=λb u e z=>by rw[z,hn,0] at e
 refine I.step (g':=s.gens) (d':=s.drawn) (ch:= [it]) (λb hb=>?_) (λb o _ _ O e _=>k b o (λz=>O (by simp[z])) e) (λb o _ _ O e _=>⟨o.slots,k b o (λz=>O (by simp[z])) e⟩) (λ_ _ _ _ n=>n)
  (λb o O e=>⟨o,k b o (λz=>O (by simp[z])) e⟩) (λ_ _ e=>e) (λ_ _ _ e=>e) (λb ps e=>⟨#[],by rw[e];simp⟩) (λm hm=>?_) (λb u e=>?_) I.bare
 .let e:b=it:=by simpa using hb
  subst e;exact(h1,hL,h2,h3)
 .erw[hm,o,es,ep,ho,r,<-(o,es,ep,k _ o (Uv hL) ho,r)]
 .refine(I.hok b u e).stay (λc v O q=>k c v ?_ q) (λ_ q=>q) λ_ _ q=>q;rcases O with z|z
  .rw[z];exact U b u e
  .exact U c _ z
def Inv.tok (I:#[I])(t:Nat)(O:0<t:=by ac_rfl):Inv X oq σ H {s with toks:=t}:=I.un (h':=s.heap) (t':=t) Un.refl I.hok
def Inv.kept (I:#[I])(k:∀b u,s.heap.get? b=u_ u->h'.get? b=u_ u)(O:0<t':=by ac_rfl):Inv X oq σ H {s with heap:=h',toks:=t'}:=I.un (Un.kept k) (I.hok.kept k)
def Inv.laid {o:HO}(I:#[I])(k:∀b u,s.heap.get? b=u_ u->h'.get? b=u_ u)(O:#[0,s]<=a)(new:QT X.prog X.w (upd H a o) h' a o)(U:0<t':=by ac_rfl):
  Inv X oq σ (upd H a o) {s with heap:=h',toks:=t'}:=I.un (Un.laid k O (I.hok.fresh O)) (I.hok.laid k O new)
def Inv.write {x e:o3}{o:HO}{t':Nat}(I:#[I])(mu:Mut (H x))(U:e=x\/H e=u_ (.own x))(k:∀b u,b≠e->s.heap.get? b=u_ u->h'.get? b=u_ u)(O:∃u,h'.get? e=u_ u)
  (new:QT X.prog X.w (upd H x o) h' x o) (ht:0<t':=by ac_rfl):Inv X oq σ (upd H x o) {s with heap:=h',toks:=t'}:=I.un (Un.write mu U k O) (I.hok.write mu U k O new)
def Inv.pins_of {O:#[16]}(I:#[I])(h:∀p>O,s.heap.get? p.1=u_ p.2/\H p.1=U_/\p.1≠X.env.locals/\p.1∉X.fs/\∀v,p.2.data≠ .cell v):Inv X O σ H s:=
 (I.ok,I.os,I.bare,I.base,I.loc,I.cell,I.free,I.freeC,λp U=>(Ae.mp U).elim (λz=>I.pin p (vL _ z)) (h p),I.hok,I.len,I.tk)
variable {i j:Nat}{x:Str}
def wx {N:oj Str}(O:N.Nodup)(a:N[i]? =u_ x)(b:N[j]? =u_ x):i=j:=by
 erw[Ah.mp a,h1,U];erw[Ah.mp b,h2,e2,<-(List.getElem_inj O).mp (U.trans e2.symm)]
def su {M:GW}{A:oh}{E:#[14]}{i:Nat}{x:Str}{v:V}{u:o6}{Q:Unit->o7->Prop}(I:#[I])(hN:X.N.Nodup)(hi:X.N[i]? =u_ x)(hx:Loc X.env.scope x)(r:ii v u)
  (h:∀s',Inv X oq (σ.set i (u_ v)) H s'->(∃a,Hz a s.heap s'.heap/\(a=X.env.locals\/X.env.cells.lookup x=u_ a))->Q Gk s') (hf:X.fn x=v_\/X.env.scope.names.lookup x=u_ .local:=by first|exact .inl rfl|exact .inr rfl|assumption):Vu M A (T2 X.env x u) Q E s:=by
 erw[id I.loc,m,hn,hl];let ad:(X.env.scope.kind== .class||(X.env.scope.kind== .module&&X.env.locals !=X.env.globals))=false:=by rw[I.ok.kind];rfl
 let ae:i<↑σ:=by rw[I.len];exact(Ah.mp hi).1
 let cne:=I.cne;let U:∀{a:o3}{h':o8},(∃o,s.heap.get? a=u_ o/\H a=U_)->Hz a s.heap h'->HOk X.prog X.w H h':=λ{a h'} ha O b ob e=>by
  erw[ha,_,_,aa];refine(I.hok b ob e).stay (λc w' hc q=>(O.2 c ?_).trans q) (λ_ q=>q) λ_ _ q=>q;rintro rfl;rcases hc with rfl|hc
  .rw[aa,0] at e
  .rw[aa,0] at hc
 rcases hx with hk|hk
 .refine PB hk hn (λh' al O=>?_) ad;erw[id hn,oL,_,_,am,_];refine h _ (I.ok,I.os,I.bare,(λb o e n hb hx=>?_,λb o e n hb hx=>?_,I.base.free,λb o e hx=>?_,I.base.tups,I.base.frzs,I.base.tbls),[_:al:λj y v' e1 e2 e3=>?_],λy c e=>?_,I.free,I.freeC,λp hp=>?_,U [oL:am:I.free] O,by simpa using I.len,by first|exact I.tk|exact Fq _) [_:O:.inl rfl]
  .exact(O.2 b (uM (VP (uD e) I.ok.above))).trans (I.base.keep b o e n hb hx)
  .erw[I.base.slot b o e n hb hx,sl,e1,<-[sl:(O.2 b (uM (VP (uD e) I.ok.above))).trans e1]]
  .erw[I.base.there b o e hx,o',e1,<-[o':(O.2 b (uM (VP (uD e) I.ok.above))).trans e1]]
  .by_cases hj:j=i
   .subst hj;rw[hi,0] at e1;rw[UC ae,0] at e2;exact⟨u,r,.inl ⟨hk,by simp⟩⟩
   .rw[V4 (Uv hj)] at e2;erw[hl j y v' e1 e2 e3,u',r',q];rw[_,u',r'];rcases q with⟨k,e⟩|⟨k,c,e,z⟩
    .refine .inl [k:?_];have:y≠x:=λe=>hj (wx hN e1 (e▸hi));simp[this,e]
    .exact .inr (k,c,e,z.sameBut O (cne y c e))
  .erw[I.cell y c e,w',z,<-[w':z.sameBut O (cne y c e)]]
  .erw[I.pin p hp,e,n,ne,nf,d,<-((O.2 p.1 ne).trans e,n,ne,nf,d)]
 .let ac:X.fn x=true:=by
   rcases hf with z|z
   .exact z
   .rw[z,0] at hk
  erw[I.ok.has x (.inl hk),c,hc];erw[I.cell x c hc,w',z];refine wpAny_storeName_cell I.ok.kind hk hc z (λh' af O=>?_);erw[id z,oc,ag,ah];refine h {s with heap:=h'} (I.ok,I.os,I.bare,(λb o e n hb hx=>?_,λb o e n hb hx=>?_,I.base.free,λb o e hx=>?_,I.base.tups,I.base.frzs,I.base.tbls),[m:hn.sameBut O (Uv (cne x c hc)):λj y v' e1 e2 e3=>?_],λy c' e=>?_,I.free,I.freeC,λp hp=>?_,U [oc:ag:I.freeC x c hc] O,by simpa using I.len,by first|exact I.tk|exact Fq _) [c:O:.inr hc]
  .exact(O.2 b (uM (VP (uD e) (I.ok.cab x c ac hc)))).trans (I.base.keep b o e n hb hx)
  .erw[I.base.slot b o e n hb hx,sl,e1,<-[sl:(O.2 b (uM (VP (uD e) (I.ok.cab x c ac hc)))).trans e1]]
  .erw[I.base.there b o e hx,o',e1,<-[o':(O.2 b (uM (VP (uD e) (I.ok.cab x c ac hc)))).trans e1]]
  .by_cases hj:j=i
   .subst hj;rw[hi,0] at e1;rw[UC ae,0] at e2;exact[u:r:.inr (.inl hk,c,hc,af)]
   .rw[V4 (Uv hj)] at e2;erw[hl j y v' e1 e2 e3,u',r',q];rw[_,u',r'];rcases q with q|⟨k,c',e,z'⟩
    .exact .inl q
    .refine .inr (k,c',e,z'.sameBut O ?_);rintro rfl;exact hj (wx hN e1 (I.ok.inj _ _ _ e hc▸hi))
  .by_cases ak:c'=c
   .subst ak;exact[_:af]
   .erw[I.cell y c' e,w2,z2,<-[w2:z2.sameBut O ak]]
  .erw[I.pin p hp,e,n,ne,nf,d];rw[_,(O.2 p.1 ?_).trans e,n,ne,nf,d];intro q;rw[q,ag] at e;let q':oc=p.2:=uJ e;exact d w' (by rwa[<-q'])
def zH {M:GW}{A:oh}{E:#[14]}{i:Nat}{x:Str}{v:V}{u:o6}{Q:Unit->o7->Prop}(I:#[I])(O:X.N.Nodup)(hi:X.N[i]? =u_ x)(U:Loc X.env.scope x)(r:ii v u)
  (h:∀s',Inv X oq (σ.set i (u_ v)) H s'->Q Gk s') (hf:X.fn x=v_\/X.env.scope.names.lookup x=u_ .local:=by first|exact .inl rfl|exact .inr rfl|assumption):Vu M A (T2 X.env x u) Q E s:=
 su I O hi U r (λs' I' _=>h s' I') hf
def Inv.call' {s':o7}{ch:oj o3}(I:#[I])(U:s'.os=s.os)(u:Un (frs X.stack) ch H H' s.heap s'.heap)(hok:HOk X.prog X.w H' s'.heap)(hg:GE s'.gens)
  (O:∀b>ch,(b>X.ex\/X.s₀.heap.objs.size<=b)/\b≠X.env.locals/\(∀x c,X.env.cells.lookup x=u_ c->c≠b)/\∀p>X.pn++oq,p.1≠b) (ht:0<s'.toks:=by ac_rfl):Inv X oq σ H' s':=by
 erw[s',h',g',d',t',o'];let e:o'=s.os:=U;subst e;exact I.call (g':=g') (t':=t') (d':=d') u hok hg O
end
nonrec abbrev XK:=o6->om o3->Hp->Prop
nonrec abbrev St:=oj (om V)
nonrec abbrev VK:=V->Hp->Prop
nonrec abbrev TE:=St->Hp->VK->Prop
nonrec abbrev TT:=St->Hp->(Bool->Hp->Prop)->Prop
nonrec abbrev TA:=St->Hp->(oj V->Hp->Prop)->Prop
structure mV where
 nx:St->Hp->Prop
 rt:VK
 bk:St->Hp->Prop:=λ_ _=>False
 ct:St->Hp->Prop:=λ_ _=>False
nonrec abbrev TS:=mV->St->Hp->Prop
abbrev EP (X:Cx)(oq:#[16])(σ:St)(Q:VK)(u:o6)(s':o7):Prop:=∃v H',Inv X oq σ H' s'/\ii v u/\Q v H'
abbrev TP (X:Cx)(oq:#[16])(σ:St)(Q:Bool->Hp->Prop)(b:Bool)(s':o7):Prop:=∃H',Inv X oq σ H' s'/\Q b H'
abbrev AP (X:Cx)(oq:#[16])(σ:St)(Q:oj V->Hp->Prop)(us:oj o6)(s':o7):Prop:=∃vs H',Inv X oq σ H' s'/\im vs us/\Q vs H'
abbrev SP (X:Cx)(oq:#[16])(D:mV)(f:Flow)(s':o7):Prop:=
 match f with
 | .next=>∃σ' H',Inv X oq σ' H' s'/\D.nx σ' H'| .brk=>∃σ' H',Inv X oq σ' H' s'/\D.bk σ' H'| .cont=>∃σ' H',Inv X oq σ' H' s'/\D.ct σ' H'| .ret u=>∃v σ' H',Inv X oq σ' H' s'/\ii v u/\D.rt v H'
abbrev PE (X:Cx)(e:Expr)(t:TE):Prop:=
 ∀(oq:#[16]) (s:o7) (σ:St) (H:Hp) (Q:VK),#[I]->t σ H Q->Vu #[X,X] X.A (eval e X.env) (EP X oq σ Q) X.xe s
abbrev PT (X:Cx)(e:Expr)(t:TT):Prop:=
 ∀(oq:#[16]) (s:o7) (σ:St) (H:Hp) (Q:Bool->Hp->Prop),#[I]->t σ H Q->Vu #[X,X] X.A (isTrue e X.env (eval e X.env)) (TP X oq σ Q) X.xe s
abbrev PW (X:Cx)(e:Expr)(t:TT):Prop:=
 ∀(whole:Sem o6) (oq:#[16]) (s:o7) (σ:St) (H:Hp) (Q:Bool->Hp->Prop),#[I]->t σ H Q->Vu #[X,X] X.A (isTrue e X.env whole) (TP X oq σ Q) X.xe s
variable {X:Cx}
def PW.pt {e:Expr}{t:TT}(h:PW X e t):PT X e t:=h _
abbrev PA (X:Cx)(es:oj Expr)(t:TA):Prop:=
 ∀(pos:Pos) (oq:#[16]) (s:o7) (σ:St) (H:Hp) (Q:oj V->Hp->Prop),#[I]->t σ H Q->Vu #[X,X] X.A (HX (VL pos (VA es X.env))) (AP X oq σ Q) X.xe s
abbrev PS (X:Cx)(st:Stmt)(t:TS):Prop:=
 ∀(oq:#[16]) (s:o7) (σ:St) (H:Hp) (D:mV),#[I]->t D σ H->Vu #[X,X] X.A (exec st X.env) (SP X oq D) X.xe s
abbrev PSs (X:Cx)(st:oj Stmt)(t:TS):Prop:=
 ∀(oq:#[16]) (s:o7) (σ:St) (H:Hp) (D:mV),#[I]->t D σ H->Vu #[X,X] X.A (execs st X.env) (SP X oq D) X.xe s
variable {M:GW}{A:oh}{E:#[14]}{s:o7}
def thn {α:Type}{t:Sem α}{Q O:α->o7->Prop}(h:Vu M A t Q E s)(U:∀a s,Q a s->O a s):Vu M A t O E s:=vz h U λ_ _ x=>x
section
variable {X:Cx}
inductive Acx (i:Nat)(σ:St)(H:Hp)(Q:VK):Prop
 |mk (v:_)(_:σ[i]? =u_ (u_ v))(_:Q v H)
abbrev tC (v:V):TE:=λ_ H Q=>Q v H
variable {i:Nat}{x:Str}
def Adh {pos:Pos}(hN:X.N[i]? =u_ x)(hv:Vis X.env.scope x)(hd:(x==("__debug__":Str))=false:=by decide)(aa:(x==("__classdict__":Str))=false:=by decide):PE X (.Name x pos) (Acx i):=by
 rw[2,Q,I,h];erw[h,v,e,h];erw[I.loc,m,hn,hl];erw[hl i x v hN e hv,u,r,l];let fin:EP X oq σ Q u s:=(v,H,I,r,h);rcases l with⟨U,hm⟩|⟨U,c,hc,O⟩
 .exact FL (rM I.ok.kind U hn hm fin) hd
 .rcases U with U|U
  .exact FL (pw I.ok.kind U hc O fin) hd
  .exact FL (wpAny_loadName_free I.ok.kind U hc O fin aa) hd
def qj {i j pos}:PE X (.Constant (.int i) j pos) (tC (.int i)):=λ_ _ _ H _ I h=>wpAny_Constant_int (.int i,H,I.tok _,⟨0⟩,h)
def jC {b j pos}:PE X (.Constant (.bool b) j pos) (tC (.bl b)):=λ_ _ _ H _ I h=>Constant_bool (.bl b,H,I,1,h)
def qY {j pos}:PE X (.Constant .none j pos) (tC .non):=λ_ _ _ H _ I h=>Constant_none (.non,H,I,1,h)
def qh {x j pos}:PE X (.Constant (!x) j pos) (tC (!x)):=λ_ _ _ H _ I h=>Calls.Constant_str (!x,H,I.tok _,⟨0⟩,h)
abbrev Gl (X:Cx)(x:Str):Prop:=X.env.kindOf x=u_ .globalImplicit
def Zk {E:#[14]}{oq:#[16]}{s:o7}{σ:St}{H:Hp}{x:Str}{u:o6}{pos:Pos}{Q:#[14]}(I:#[I])(O:Gl X x)(hm:X.mg x=u_ u)(h:Q u s)
  (hd:(x==("__debug__":Str))=false:=by decide):Vu #[X,X] X.A (eval (.Name x pos) X.env) Q E s:=
 pB I.ok.kind O (Calls.loadGlobal_global (by rw[I.ok.glob];exact I.mod.glob.keeps I.bk) hm h) hd
def x8 {E:#[14]}{oq:#[16]}{s:o7}{σ:St}{H:Hp}{x:Str}{u:o6}{pos:Pos}{Q:#[14]}(I:#[I])(O:Gl X x)(hm:X.mg x=U_)(U:GH x=u_ u)(h:Q u s)
  (hn:x≠"__name__":=by decide) (hd:(x==("__debug__":Str))=false:=by decide):Vu #[X,X] X.A (eval (.Name x pos) X.env) Q E s:=by
 erw[I.mod.blt,mb,h1,h2,<-pB I.ok.kind O (Calls.loadGlobal_builtin (by rw[I.ok.glob];exact I.mod.glob.keeps I.bk) hm (by rw[I.ok.blt];exact h1.keeps I.bk) ((h2 x hn).trans U) h) hd]
variable {v:V}{u:o6}
def Bw {pos:Pos}(O:Gl X x)(hm:X.mg x=u_ u)(r:ii v u)(hd:(x==("__debug__":Str))=false:=by decide):PE X (.Name x pos) (tC v):=
 λ_ _ _ H _ I h=>Zk I O hm (v,H,I,r,h) hd
def Q6 {x:Str}{v:V}{u:o6}{pos:Pos}(O:Gl X x)(hm:X.mg x=U_)(U:GH x=u_ u)(r:ii v u)(hn:x≠"__name__")(hd:(x==("__debug__":Str))=Vt):PE X (.Name x pos) (tC v):=
 λ_ _ _ H _ I h=>x8 I O hm U (v,H,I,r,h) hn hd
variable {a b:Expr}{ta tb:TE}{pos:Pos}
abbrev PC (X:Cx)(op:Hj)(a b:Expr)(t:TE):Prop:=
 ∀(oq:#[16]) (s:o7) (σ:St) (H:Hp) (Q:VK),#[I]->t σ H Q->
  Vu #[X,X] X.A (eval a X.env) (λv s₁=>Vu #[X,X] X.A (eval b X.env) (λu s₂=>Vu #[X,X] X.A (VM op v u) (EP X oq σ Q) X.xe s₂) X.xe s₁) X.xe s
inductive ItB (Q:(Bool->Hp->Prop))(x:V)(H1:Hp):Prop
 |mk (c:_)(_:x= .bl c)(_:Q c H1)
abbrev tB (t:TE):TT:=λσ H Q=>t σ H λx H1=>ItB Q x H1
def Adl {O:Hj}{t:TE}(h:PC X O a b t)(h1:HN O b=Vt):PE X (.Compare a [O] [b] pos) t:=λoq s σ H Q I U=>Pc (h oq s σ H Q I U) h1
def xQ {O:Hj}{t:TE}(h:PC X O a b t)(h1:HN O b=Vt):PT X (.Compare a [O] [b] pos) (tB t):=by
 rw[2,Q,I,U];refine PJ (thn (h oq s σ H _ I U) λv s1 h1=>thn h1 λu s2 h2=>thn h2 λc s3 zq=>?_) h1;erw[zq,x,H1,I1,r1,q1];erw[q1,d,rfl,q];rw[r1,0];exact vA [H1:I1:q]
def Qh {e:Expr}{t:TE}(h:PE X e t)(U:∀O,isTrue e X.env O=(do let v<-O;tI e.pos;GS [v] (truthy v))):PT X e (tB t):=by
 rw[2,Q,I,hw];refine Pa (thn (h oq s σ H _ I hw) λv s1 zq=>?_) (U _);erw[zq,x,H1,I1,r1,q1];erw[q1,d,rfl,q];rw[r1,0];exact vA [H1:I1:q]
variable {tA tB':TT}{rest:oj Expr}
abbrev Agw (t u:TT):TT:=λσ H Q=>t σ H λc H1=>if c=v_ then u σ H1 Q else Q Vt H1
abbrev tOr (t u:TT):TT:=λσ H Q=>t σ H λc H1=>if c=v_ then Q v_ H1 else u σ H1 Q
abbrev Agr (t:TT):TT:=λσ H Q=>t σ H λc H1=>Q (!(c)) H1
def J0 (ha:PT X a tA):PW X (.BoolOp .And [a] pos) tA:=by
 intro O oq s σ H Q I h;refine isTrue_and (thn (ha oq s σ H Q I h) λc s1 e=>?_);cases c with
 |true=>exact isTrue_and_nil e|false=>exact e
def xY (ha:PT X a tA):PW X (.BoolOp .Or [a] pos) tA:=by
 intro O oq s σ H Q I h;refine isTrue_or (thn (ha oq s σ H Q I h) λc s1 e=>?_);cases c with
 |false=>exact isTrue_or_nil e|true=>exact e
def zq (ha:PT X a tA)(U:PW X (.BoolOp .And (b::rest) pos) tB'):PW X (.BoolOp .And (a::b::rest) pos) (Agw tA tB'):=by
 intro wh oq s σ H Q I h;refine isTrue_and (thn (ha oq s σ H _ I h) λc s1 zq=>?_);erw[zq,H1,O,q1];cases c with
 |true=>exact U wh oq s1 σ H1 Q O q1|false=>exact[H1:O:q1]
def wb (ha:PT X a tA)(U:PW X (.BoolOp .Or (b::rest) pos) tB'):PW X (.BoolOp .Or (a::b::rest) pos) (tOr tA tB'):=by
 intro wh oq s σ H Q I h;refine isTrue_or (thn (ha oq s σ H _ I h) λc s1 zq=>?_);erw[zq,H1,O,q1];cases c with
 |true=>exact[H1:O:q1]|false=>exact U wh oq s1 σ H1 Q O q1
def Qv (ha:PT X a tA):PT X (.UnaryOp .Not a pos) (Agr tA):=by
 rw[2,Q,I,h];exact isTrue_not (ha oq s σ H (λc H1=>Q (!(c)) H1) I h)
inductive Aex (tb:TE)(σ:St)(Q:VK)(x:V)(H1:Hp):Prop
 |mk (c:_)(_:x= .bl c)(_:if c=v_ then tb σ H1 Q else Q (.bl Vt) H1)
abbrev Ae4 (ta tb:TE):TE:=λσ H Q=>ta σ H λx H1=>Aex tb σ Q x H1
inductive AfO (tb:TE)(σ:St)(Q:VK)(x:V)(H1:Hp):Prop
 |mk (c:_)(_:x= .bl c)(_:if c=v_ then Q (.bl v_) H1 else tb σ H1 Q)
abbrev Agq (ta tb:TE):TE:=λσ H Q=>ta σ H λx H1=>AfO tb σ Q x H1
inductive Aev (Q:VK)(x:V)(H1:Hp):Prop
 |mk (c:_)(_:x= .bl c)(_:Q (.bl (!(c))) H1)
abbrev AeW (ta:TE):TE:=λσ H Q=>ta σ H λx H1=>Aev Q x H1
def kK {op}{t:TE}(h:PE X a t):PE X (.BoolOp op [a] pos) t:=λoq s σ H Q I O=>BoolOp_one (h oq s σ H Q I O)
def pe_and (ha:PE X a ta)(U:PE X (.BoolOp .And (b::rest) pos) tb):PE X (.BoolOp .And (a::b::rest) pos) (Ae4 ta tb):=by
 rw[2,Q,I,h];refine BoolOp_and (thn (ha oq s σ H _ I h) λv s1 zq=>?_);erw[zq,x,H1,O,r1,q1];erw[q1,c,rfl,q1];rw[r1,0];refine vA ?_;cases c with
 |true=>exact U oq s1 σ H1 Q O q1|false=>exact(.bl Vt,H1,O,1,q1)
def Afi (ha:PE X a ta)(U:PE X (.BoolOp .Or (b::rest) pos) tb):PE X (.BoolOp .Or (a::b::rest) pos) (Agq ta tb):=by
 rw[2,Q,I,h];refine BoolOp_or (thn (ha oq s σ H _ I h) λv s1 zq=>?_);erw[zq,x,H1,O,r1,q1];erw[q1,c,rfl,q1];rw[r1,0];refine vA ?_;cases c with
 |false=>exact U oq s1 σ H1 Q O q1|true=>exact(.bl v_,H1,O,1,q1)
def Adj (ha:PE X a ta):PE X (.UnaryOp .Not a pos) (AeW ta):=by
 rw[2,Q,I,h];refine UnaryOp_ (thn (ha oq s σ H _ I h) λv s1 zq=>?_);erw[zq,x,H1,O,U,q1];erw[q1,c,rfl,q1];rw[U,0];exact not_of (vA (.bl (!(c)),H1,O,1,q1))
abbrev tIf (t:TT)(ta tb:TE):TE:=λσ H Q=>t σ H λc H1=>if c=v_ then ta σ H1 Q else tb σ H1 Q
def yd {c:Expr}(U:PT X c tA)(ha:PE X a ta)(hb:PE X b tb):PE X (.IfExp c a b pos) (tIf tA ta tb):=by
 rw[2,Q,I,h];refine wpAny_IfExp (thn (U oq s σ H _ I h) λd s1 zq=>?_);erw[zq,H1,O,q1];cases d with
 |true=>exact ha oq s1 σ H1 Q O q1|false=>exact hb oq s1 σ H1 Q O q1
end
abbrev SqL (K:o0)(H:Hp)(a:o3)(xs:oj V):Prop:=
 Rd H a (.lst xs)\/
  ∃(o:Obj) (its:Array o6) (n:Nat),K.lookup a=u_ o/\o.cls= .type "list"/\o.dict=U_/\o.data= .seq its n/\its.size<=Vw/\im xs its.toList
abbrev SqT (K:o0)(H:Hp)(a:o3)(xs:oj V):Prop:=
 Rd H a (¬xs)\/
  ∃(o:Obj) (its:Array o6) (n:Nat),K.lookup a=u_ o/\o.cls= .type "tuple"/\o.data= .seq its n/\its.size<=Vw/\im xs its.toList
abbrev AgR:o6->om V
 | .none=>u_ .non| .bool b=>u_ (.bl b)| .int i _=>u_ (.int i)| .str x _=>u_ (!x)| .bytes b _=>u_ (.byt b)| .float b _=>u_ (.flt b)| .ref a=>u_ (-a)| .type n=>u_ (.ty n)|_=>U_
variable {u:o6}
def ii.abs {x:V}(r:ii x u):AgR u=u_ x:=by
 cases x with
 |non=>rw[r,0];rfl|bl _=>rw[r,0];rfl|int _=>erw[r,t,rfl];rfl|str _=>erw[r,t,rfl];rfl|byt _=>erw[r,t,rfl];rfl|flt _=>erw[r,t,rfl];rfl|ref _=>rw[r,0];rfl|ty _=>rw[r,0];rfl
variable {y:V}
def ii.inj {x:V}(r:ii x u)(q:ii y u):x=y:=uJ (r.abs.symm.trans q.abs)
def im.inj:∀{xs ys:oj V}{us:oj o6},im xs us->im ys us->xs=ys
 |_,_,_,.nil,.nil=>rfl|_,_,_,.cons r t,.cons r' t'=>by rw[r.inj r',im.inj t t']
section
variable {X:Cx}{oq:#[16]}{σ:St}{H:Hp}{s:o7}{a:o3}{xs ys:oj V}
variable {K:o0}
def SqL.of (h:H a=u_ (.lst xs)):SqL K H a xs:= .inl (.inl h)
def SqT.of (h:H a=u_ (¬xs)):SqT K H a xs:= .inl (.inl h)
def Inv.list (I:#[I])(h:SqL X.K H a xs):∃its:oj o6,im xs its/\PlainL s.heap a its.toArray/\↑xs<=sizeLine:=by
 rcases h with h|⟨o,its,n,O,U,hd,hs,hz,r⟩
 .erw[h.ok I.hok,z,its,n,r,e,<-(its,r,(_,n,e,1,1,1),z)]
 .rw[_,its.toList,r,(o,n,I.kIn a o O,U,hd,by simpa using hs)]
  let e:=↑r;simp![vi] at e;omega
def Inv.tuple (I:#[I])(h:SqT X.K H a xs):∃its:oj o6,im xs its/\Gr s.heap a its.toArray/\↑xs<=sizeLine:=by
 rcases h with h|⟨o,its,n,O,U,hs,hz,r⟩
 .erw[h.ok I.hok,z,its,r,p,<-(its,r,p,z)]
 .rw[_,its.toList,r,(o,I.kIn a o O,U,n,by simpa using hs)]
  let e:=↑r;simp![vi] at e;omega
def Inv.list_inj (I:#[I])(h:SqL X.K H a xs)(h':SqL X.K H a ys):xs=ys:=by
 erw[I.list h,its,r,[o,n,e,_,_,d],_];erw[I.list h',its',U,[o',n',O,_,_,d'],_];rw[e,0] at O;rw[d] at d';injection d' with d1 _
 have:its=its':=by simpa using Aa Fj d1
 subst this;exact r.inj U
def Inv.tuple_inj (I:#[I])(h:SqT X.K H a xs)(h':SqT X.K H a ys):xs=ys:=by
 erw[I.tuple h,its,r,[o,e,_,n,d],_];erw[I.tuple h',its',U,[o',O,_,n',d'],_];rw[e,0] at O;rw[d] at d';injection d' with d1 _
 have:its=its':=by simpa using Aa Fj d1
 subst this;exact r.inj U
end
nonrec abbrev Cx.wish (X:Cx)(E:#[14]):Cx:={X with xe:=E}
nonrec abbrev Cx.nox (X:Cx):Cx:=X.wish λ_ _=>False
def Cx.Ok.wish (ok:X.Ok)(E:#[14]):(X.wish E).Ok:=
 (ok.mod,ok.kind,ok.glob,ok.blt,ok.above,ok.inj,ok.has,ok.cab,ok.hd,ok.frames,ok.stk,ok.exf,ok.bs,ok.bsz,ok.noex,ok.exfs,ok.funs,ok.frf)
def Cx.Ok.unwish (ok:(X.wish E).Ok):X.Ok:=
 (ok.mod,ok.kind,ok.glob,ok.blt,ok.above,ok.inj,ok.has,ok.cab,ok.hd,ok.frames,ok.stk,ok.exf,ok.bs,ok.bsz,ok.noex,ok.exfs,ok.funs,ok.frf)
section
variable {X:Cx}{oq:#[16]}{σ:St}{H:Hp}{s:o7}{E:#[14]}
def Inv.wish (I:#[I])(E:#[14]):Inv (X.wish E) oq σ H s:=(I.ok.wish E,I.os,I.bare,I.base,I.loc,I.cell,I.free,I.freeC,I.pin,I.hok,I.len,I.tk)
def Inv.unwish (I:Inv (X.wish E) oq σ H s):#[I]:=(I.ok.unwish,I.os,I.bare,I.base,I.loc,I.cell,I.free,I.freeC,I.pin,I.hok,I.len,I.tk)
def SP.unwish {D:mV}{f:Flow}{s':o7}(h:SP (X.wish E) oq D f s'):SP X oq D f s':=by
 cases f with
 |next=>erw[h,O,H',I,q,<-(O,H',I.unwish,q)]|brk=>erw[h,O,H',I,q,<-(O,H',I.unwish,q)]|cont=>erw[h,O,H',I,q,<-(O,H',I.unwish,q)]|ret u=>erw[h,v,O,H',I,r,q,<-(v,O,H',I.unwish,r,q)]
def PSs.nox {st:oj Stmt}{t:TS}(h:PSs X.nox st t):PSs X st t:=λoq s σ H D I hw=>
 vz (h oq s σ H D (I.wish _) hw) (λ_ _ q=>q.unwish) λ_ _ z=>V_ z
end
section
variable {X:Cx}{st:Stmt}{rest:oj Stmt}{t u:TS}{e:Expr}{te:TE}{pos:Pos}
abbrev AcB:TS:=λD σ H=>D.nx σ H
abbrev nP (t u:TS):TS:=λD σ H=>t {D with nx:=u D} σ H
def qu:PSs X [] AcB:=λ_ _ σ H _ I h=>UN (σ,H,I,h)
def qc (h1:PS X st t)(h2:PSs X rest u):PSs X (st::rest) (nP t u):=by
 rw[2,D,I,h];refine Fi (thn (h1 oq s σ H {D with nx:=u D} I h) λf s1 q=>?_)
 cases f with
 |next=>
  erw[q,O,H',U,q,<-h2 oq s1 O H' D U q]
 |ret v=>exact q|brk=>exact q|cont=>exact q
def qe (h1:PS X st t):PSs X [st] t:=by
 rw[2,D,I,h];refine Fi (thn (h1 oq s σ H D I h) λf s1 q=>?_);cases f with
 |next=>exact UN q|ret v=>exact q|brk=>exact q|cont=>exact q
abbrev AcK:TS:=λD σ H=>D.bk σ H
abbrev Ae1:TS:=λD σ H=>D.ct σ H
def AaE:PS X (.Pass pos) AcB:=λ_ _ σ H _ I h=>wpAny_Pass (σ,H,I,h)
def MV:PS X (.Break pos) AcK:=λ_ _ σ H _ I h=>wpAny_Break (σ,H,I,h)
def Bt:PS X (.Continue pos) Ae1:=λ_ _ σ H _ I h=>wpAny_Continue (σ,H,I,h)
variable {oq:#[16]}{σ:St}
def Inv.quiet (I:#[I]):Rf X.env=false:=by simp[Rf,I.ok.kind]
abbrev AeZ (te:TE):TS:=λD σ H=>te σ H λ_ H1=>D.nx σ H1
def Qe (O:PE X e te)(U:Ht e U_ pos.line X.env=pure Vt):PS X (.Expr e pos) (AeZ te):=by
 rw[2,D,I,h];exact Rz (thn (O oq s σ H _ I h) λv s1 ⟨x,H1,I1,r1,q1⟩=>(σ,H1,I1,q1)) I.quiet U
abbrev Agp (te:TE):TS:=λD σ H=>te σ H D.rt
def qp (O:PE X e te):PS X (.Return (u_ e) pos) (Agp te):=by
 rw[2,D,I,h];exact wpAny_Return_some (thn (O oq s σ H _ I h) λv s1 ⟨x,H1,U,r1,q1⟩=>(x,σ,H1,U,r1,q1))
abbrev AeU:TS:=λD _ H=>D.rt .non H
def AaD:PS X (.Return U_ pos) AeU:=λ_ _ σ H _ I h=>wpAny_Return_none (.non,σ,H,I,1,h)
abbrev Af2 (c:TT)(t u:TS):TS:=λD σ H=>c σ H λb H1=>if b=v_ then t D σ H1 else u D σ H1
def qK {c:Expr}{a b:oj Stmt}{tc:TT}(U:PT X c tc)(ha:PSs X a t)(hb:PSs X b u):PS X (.If c a b pos) (Af2 tc t u):=by
 rw[2,D,I,h];refine wpAny_If (thn (U oq s σ H _ I h) λd s1 zq=>?_);erw[zq,H1,O,q1];cases d with
 |true=>exact ha oq s1 σ H1 D O q1|false=>exact hb oq s1 σ H1 D O q1
abbrev Ow:TS:=λ_ _ _=>False
def xt:PS X st Ow:=λ_ _ _ _ _ _ h=>h.elim
def sW {O:oj Stmt}:PSs X O Ow:=λ_ _ _ _ _ _ h=>h.elim
end
nonrec abbrev TG:=V->St->Hp->(St->Hp->Prop)->Prop
nonrec abbrev TGs:=oj V->St->Hp->(St->Hp->Prop)->Prop
abbrev PG (X:Cx)(target:Expr)(t:TG):Prop:=
 ∀(oq:#[16]) (s:o7) (σ:St) (H:Hp) (v:V) (u:o6) (Q:St->Hp->Prop),#[I]->ii v u->t v σ H Q->
  Vu #[X,X] X.A (GN target X.env u) (λ_ s'=>∃σ' H',Inv X oq σ' H' s'/\Q σ' H') X.xe s
abbrev PGs (X:Cx)(ts:oj Expr)(t:TGs):Prop:=
 ∀(oq:#[16]) (s:o7) (σ:St) (H:Hp) (vs:oj V) (us:oj o6) (Q:St->Hp->Prop),#[I]->im vs us->t vs σ H Q->
  Vu #[X,X] X.A (assignInOrder ((GF ts X.env).map (·.2)) us) (λ_ s'=>∃σ' H',Inv X oq σ' H' s'/\Q σ' H') X.xe s
nonrec abbrev AfK:=V->V->V->Hp->(Hp->Prop)->Prop
abbrev Agl (X:Cx)(t:AfK):Prop:=
 ∀(oq:#[16]) (s:o7) (σ:St) (H:Hp) (o i v:V) (ov iv u:o6) (Q:Hp->Prop),#[I]->ii o ov->ii i iv->ii v u->t o i v H Q->
  Vu #[X,X] X.A (FD ov iv u) (λ_ s'=>∃H',Inv X oq σ H' s'/\Q H') X.xe s
nonrec abbrev TIp:=V->V->Hp->VK->Prop
abbrev PIp (X:Cx)(op:HZ)(t:TIp):Prop:=
 ∀(oq:#[16]) (s:o7) (σ:St) (H:Hp) (x y:V) (v u:o6) (Q:VK),#[I]->ii x v->ii y u->t x y H Q->
  Vu #[X,X] X.A (r6 op v u) (EP X oq σ Q) X.xe s
section
variable {X:Cx}{pos:Pos}
abbrev jG (i:Nat):TG:=λv σ H Q=>Q (σ.set i (u_ v)) H
def qW {i:Nat}{x:Str}(O:X.N.Nodup)(hi:X.N[i]? =u_ x)(U:Loc X.env.scope x)(hf:X.fn x=v_\/X.env.scope.names.lookup x=u_ .local):PG X (.Name x pos) (jG i):=by
 rw[2,v,u,Q,I,r,h];exact rE (zH I O hi U r (λs' I'=>(_,H,I',h)) hf)
abbrev Agg:TGs:=λvs σ H Q=>vs= []/\Q σ H
abbrev AbI (t:TG)(u:TGs):TGs:=λvs σ H Q=>∃v r,vs=v::r/\t v σ H λσ' H'=>u r σ' H' Q
def qak:PGs X [] Agg:=by
 rw[2,vs,us,Q,I,r,h];erw[h,e,h];subst e;rw[r,0];exact assignInOrder_nil (σ,H,I,h)
def YE {e:Expr}{es:oj Expr}{t:TG}{u:TGs}(h1:PG X e t)(h2:PGs X es u)
  (O:(GF (e::es) X.env).map (·.2)=GN e X.env::(GF es X.env).map (·.2):=by rfl):PGs X (e::es) (AbI t u):=by
 rw[2,vs,us,Q,I,r,h];erw[h,v,vr,U,h];subst U;cases r with
 |cons r rr=>
  rw[O];refine assignInOrder_cons (thn (h1 oq s σ H _ _ _ I r h) λ_ s1 zq=>?_);erw[zq,σ1,H1,I1,q1,<-h2 oq s1 σ1 H1 _ _ Q I1 rr q1]
abbrev Afz (K:o0)(n:Nat)(t:TGs):TG:=λv σ H Q=>∃a xs,v= .ref a/\SqT K H a xs/\↑xs=n/\t xs σ H Q
def EL {es:oj Expr}{k:Nat}{t:TGs}{n:Nat}(hc:X.calm=v_)(h:PGs X es t)
  (hn:↑(GF es X.env)=n:=by rfl) (O:(GF es X.env).findIdx? (·.1)=none:=by rfl):PG X (.Tuple es k pos) (Afz X.K n t):=by
 rw[2,v,u,Q,I,r,U];erw[U,a,xs,e1,hq,hl,U];subst e1;rw[r,0];erw[I.tuple hq,its,rv,ht,hz];refine assign_Tuple_tuple (I.ok.hd hc) ht (by simp[hn,<-hl,rv.length]) O λh' hx=>?_
 let I1:Inv X oq σ H {s with heap:=h'}:=I.kept (t':=s.toks) λb o e=>hx b o (uM (uD e)) e
 exact h oq _ σ H xs _ Q I1 (by simpa using rv) U
abbrev AgP (to ti:TE)(t:AfK):TG:=λv σ H Q=>to σ H λo H1=>ti σ H1 λi H2=>t o i v H2 λH3=>Q σ H3
def Adg {o i:Expr}{to ti:TE}{t:AfK}(U:PE X o to)(hi:PE X i ti)(hs:Agl X t)
  (ha:∀v,GN (.Subscript o i pos) X.env v=(do
   let ov<-GS [v] (eval o X.env)
   let O<-GS [v,ov] (eval i X.env)
   tI pos
   GS [v,ov,O] (FD ov O v)
   release [v,ov,O] [])):PG X (.Subscript o i pos) (AgP to ti t):=by
 rw[2,v,u,Q,I,r,h];rw[ha];refine A8 (VX (thn (U oq s σ H _ I h) λov s1 zq=>?_));erw[zq,x,H1,I1,r1,q1];refine A8 (VX (thn (hi oq s1 σ H1 _ I1 q1) λO s2 zq=>?_));erw[zq,y,H2,I2,r2,q2];refine A8 (Tn (A8 (VX (thn (hs oq s2 σ H2 x y v ov O u _ I2 r1 r2 r q2) λ_ s3 zq=>?_))));erw[zq,H3,I3,q3,<-wpAny_release (σ,H3,I3,q3)]
abbrev Ae3 (te:TE)(g:TG):TS:=λD σ H=>te σ H λx H1=>g x σ H1 D.nx
def EJ {tg e:Expr}{te:TE}{g:TG}(O:PE X e te)(U:PG X tg g)(hs:swapsWithSole [tg] e pos.line X.env=pure Vt)(hw:swappedStores [tg] e X.env=pure U_)
  (h1:(GF [tg] X.env).map (·.2)= [GN tg X.env]):PS X (.Assign [tg] e pos) (Ae3 te g):=by
 rw[2,D,I,h];refine wpAny_Assign_stores (thn (O oq s σ H _ I h) λv s1 zq=>?_) hs hw;erw[zq,x,H1,I1,r1,q1];rw[h1];exact thn (U oq s1 σ H1 x v _ I1 r1 q1) λ_ s2 q=>q
def qy {i:Nat}{x:Str}{e:Expr}{te:TE}{pos':Pos}(O:X.N.Nodup)(hi:X.N[i]? =u_ x)(U:Loc X.env.scope x)(he:PE X e te)(hs:Ht e (u_ (.Name x pos')) pos.line X.env=pure Vt)(hf:X.fn x=v_\/X.env.scope.names.lookup x=u_ .local):
  PS X (.Assign [.Name x pos'] e pos) (Ae3 te (jG i)):=by
 rw[2,D,I,h];refine wpAny_Assign_Name (thn (he oq s σ H _ I h) λv s1 zq=>?_) hs;erw[zq,y,H1,I1,r1,q1,<-zH I1 O hi U r1 (λs2 I2=>(_,H1,I2,q1)) hf]
inductive Agv (i:Nat)(te:TE)(ti:TIp)(D:mV)(σ:St)(H:Hp):Prop
 |mk (x:_)(_:σ[i]? =u_ (u_ x))(_:te σ H λy H1=>ti x y H1 λz H2=>D.nx (σ.set i (u_ z)) H2)
def OK {i:Nat}{x:Str}{e:Expr}{te:TE}{op:HZ}{ti:TIp}{pos':Pos}(hN:X.N.Nodup)(hi:X.N[i]? =u_ x)(hx:Loc X.env.scope x)(he:PE X e te)(ho:PIp X op ti)(hf:X.fn x=v_\/X.env.scope.names.lookup x=u_ .local):
  PS X (.AugAssign (.Name x pos') op e pos) (Agv i te ti):=by
 rw[2,D,I,h];erw[h,v,e1,h];erw[I.loc,m,hn,hl];let aa:Vis X.env.scope x:=by rcases hx with k|k;exact .inl k;exact .inr (.inl k)
 erw[hl i x v hi e1 aa,u,r,l];refine wpAny_AugAssign_Name ?_;let go:Vu #[X,X] X.A (eval e X.env) (λw s₂=>Vu #[X,X] X.A (r6 op u w) (λr s₃=>Vu #[X,X] X.A (T2 X.env x r) (λ_=>SP X oq D .next) X.xe s₃) X.xe s₂) X.xe s:=by
  refine thn (he oq s σ H _ I h) λw s1 zq=>?_;erw[zq,y,H1,I1,r1,q1];refine thn (ho oq s1 σ H1 v y u w _ I1 r r1 q1) λz s2 zq=>?_;erw[zq,zv,H2,I2,r2,q2,<-zH I2 hN hi hx r2 (λs3 I3=>(_,H2,I3,q2)) hf]
 rcases l with⟨O,hm⟩|⟨O,c,hc,U⟩
 .exact rM I.ok.kind O hn hm go
 .rcases O with O|O
  .exact pw I.ok.kind O hc U go
  .rcases hx with k|k
   .have:X.env.scope.names.lookup x=u_ .free:=O;rw[k,0] at this
   .have:X.env.scope.names.lookup x=u_ .free:=O;rw[k,0] at this
abbrev ipI (f:Int->Int->Int):TIp:=λx y H Q=>∃i j,x= .int i/\y= .int j/\Q (.int (f i j)) H
def Sg:PIp X .Add (ipI λi j=>i+j):=by
 rw[2,x,y,v,u,Q,I,O,U,h];erw[h,i,j,e1,e2,q];subst e1;subst e2;erw[O,t,rfl];erw[U,t',rfl,<-iadd_int (.int _,H,I.tok _,⟨0⟩,q)]
abbrev Ov (c:TT)(tb:TS):TS:=λD σ H=>∃W:Nat->St->Hp->Prop,(∃m,W m σ H)/\∀m σ H,W m σ H->
 c σ H λb H1=>if b=v_ then∃N:St->Hp->Prop,(∀σ' H',N σ' H'->∃m',m'<m/\W m' σ' H')/\tb {D with nx:=N,ct:=N,bk:=D.nx} σ H1 else D.nx σ H1
def xg {c:Expr}{O:oj Stmt}{tc:TT}{tb:TS}(hp:PassesOwn #[X,X] X.A X.env X.xe)(hc:PT X c tc)(hb:PSs X O tb):PS X (.While c O [] pos) (Ov tc tb):=by
 rw[2,D,I,h];erw[h,W,[m0,w0],U];refine wpAny_While (codeAny_whileLoop (λn s'=>∃σ' H',Inv X oq σ' H' s'/\W n σ' H') ?_ m0 (σ,H,I,w0));rintro n s1 ⟨σ1,H1,I1,w1⟩;refine Us hp (thn (hc oq s1 σ1 H1 _ I1 (U n σ1 H1 w1)) λb s2 zq=>?_);erw[zq,H2,I2,q2];cases b with
 |true=>
  erw[q2,N,hN,q2];rw[A6 rfl];refine Us hp (thn (hb oq s2 σ1 H2 _ I2 q2) λf s3 q3=>?_);cases f with
  |next=>
   erw[q3,σ3,H3,I3,n3];erw[hN σ3 H3 n3,m',hm,w3,<-(m',hm,σ3,H3,I3,w3)]
  |cont=>
   erw[q3,σ3,H3,I3,n3];erw[hN σ3 H3 n3,m',hm,w3,<-(m',hm,σ3,H3,I3,w3)]
  |brk=>exact q3|ret v=>exact q3
 |false=>
  rw[A4 uh];exact UN (σ1,H2,I2,q2)
end
structure It where
 go:Nat->Hp->Prop
 yld:Nat->Hp->V->Hp->Prop
 stop:Nat->Hp->Prop
abbrev B6 (X:Cx)(oq:#[16])(H:Hp)(b:o3):Prop:=
 H b=U_/\b≠X.env.locals/\b∉X.fs/\(b>X.ex\/X.s₀.heap.objs.size<=b)/\(∀x c,X.env.cells.lookup x=u_ c->c≠b)/\∀p>X.pn++oq,p.1≠b
variable {oq:#[16]}{σ:St}{H':Hp}
def Inv.fpOk (I:#[I])(O:#[0,s]<=b)(hn:H' b=U_):B6 X oq H' b:=by
 rw[_,hn,vZ (VP I.lt O),I.nofs O,.inr (uP I.sz O),λx c e z=>?_,λp U z=>?_]
 .erw[I.cell x c e,v,q,<-A9 (VP q.lt (by rwa[z])) (vC _)]
 .exact A9 (VP (uD (I.pin p U).1) (by rwa[z])) (vC _)
structure Sw (P:o9)(w:og)(K:o0)(tg:Expr)(J:It)(fp:oj o3)(it:o3)(tn:Nat->o8->Prop):Prop where
 mem:it>fp
 obj:∀i h,tn i h->∀b>fp,∃o,h.get? b=u_ o/\∀v,o.data≠ .cell v
 keep:∀i h h',tn i h->(∀b>fp,∀o,h.get? b=u_ o->h'.get? b=u_ o)->tn i h'
 item:∀(X:Cx),X.prog=P->X.w=w->X.K=K->X.calm=v_->∀(i:Nat) (oq:#[16]) (s:o7) (σ:St) (H:Hp) (E:#[14]),#[I]->(∀b>fp,B6 X oq H b)->tn i s.heap->J.go i H->
  Vu (VC P w) X.A (GT (-it)) (λr s1=>∃u,r=u_ u/\
   Vu (VC P w) X.A (tZ tg (-it) u) (λ_ s2=>∃x H',Inv X oq σ H' s2/\ii x u/\J.yld i H x H'/\tn (i+1) s2.heap/\∀b>fp,H' b=U_) E s1) E s
 done:∀(X:Cx),X.prog=P->X.w=w->X.K=K->X.calm=v_->∀(i:Nat) (oq:#[16]) (s:o7) (σ:St) (H:Hp) (E:#[14]),#[I]->(∀b>fp,B6 X oq H b)->tn i s.heap->J.stop i H->
  Vu (VC P w) X.A (GT (-it)) (λr s1=>r=U_/\Inv X oq σ H s1) E s
 self:∀(A:oh) (i:Nat) (s:o7) (Q:#[14]) (E:#[14]),tn i s.heap->Q (-it) s->Vu (VC P w) A (Ta (-it)) Q E s
nonrec abbrev TI:=St->Hp->(It->Hp->Prop)->Prop
abbrev PIE (X:Cx)(oq:#[16])(σ:St)(tg:Expr)(R:It->Hp->Prop)(itv:o6)(s2:o7):Prop:=
 ∃(it:o3) (fp:oj o3) (tn:Nat->o8->Prop) (J:It) (H':Hp),itv= .ref it/\Inv X oq σ H' s2/\Sw X.prog X.w X.K tg J fp it tn/\tn 0 s2.heap/\(∀b>fp,B6 X oq H' b)/\R J H'
abbrev PI (X:Cx)(tg iter:Expr)(wi:TI):Prop:=
 ∀(oq:#[16]) (s:o7) (σ:St) (H:Hp) (R:It->Hp->Prop),#[I]->wi σ H R->
  Vu #[X,X] X.A (eval iter X.env) (λv s1=>Vu #[X,X] X.A (Ta v) (PIE X oq σ tg R) X.xe s1) X.xe s
def DN {M:GW}{A:oh}{E:#[14]}{s:o7}{tg:Expr}{it:o3}{u:o6}{o:Obj}{n:String}{vs:Array o6}{Q:Unit->o7->Prop}(U:s.heap.get? it=u_ o)(hc:o.cls= .type n)(hd:o.data= .fields vs)
  (hn: ["enumerate","zip","dict_itemiterator","dict_reverseitemiterator","odict_iterator","itertools.zip_longest","itertools.pairwise"].contains n=Vt) (O:Q Gk s):Vu M A (tZ tg (-it) u) Q E s:=by
 unfold tZ;cases tg<;>first
  |exact uu O
  |(cases u<;>first
    |exact uu O
    |(refine A8 (Tw U ?_)
      rw[hc,hd];show Vu M A (if(["enumerate","zip","dict_itemiterator","dict_reverseitemiterator","odict_iterator","itertools.zip_longest","itertools.pairwise"].contains n&&vs[0]? ==u_ (GQ _))=v_ then _ else _) Q E s
      rw[A4 (by intro h;rw[hn,FH,0] at h)]
      exact uu O))
abbrev Itl (K:o0)(a:o3):It:=
 ⟨λi H=>∃xs x,SqL K H a xs/\xs[i]? =u_ x,λi H x H'=>H'=H/\∀xs,SqL K H a xs->xs[i]? =u_ x,λi H=>∃xs,SqL K H a xs/\↑xs<=i⟩
abbrev Itt (K:o0)(a:o3):It:=
 ⟨λi H=>∃xs x,SqT K H a xs/\xs[i]? =u_ x,λi H x H'=>H'=H/\∀xs,SqT K H a xs->xs[i]? =u_ x,λi H=>∃xs,SqT K H a xs/\↑xs<=i⟩
abbrev Itr (lo:Int)(n:Nat):It:=[λi _=>i<n:λi H x H'=>H'=H/\x= .int (lo+i):λi _=>n<=i]
variable {K:o0}{tg:Expr}
def D3 {P:o9}(a it:o3):Sw P w K tg (Itl K a) [it] it (λi h=>h.IsListIter it a i) where
 mem:=by simp
 obj:=λi h st b O=>by
  let e:b=it:=by simpa using O
  subst e;erw[st,o,e,c,d,<-⟨o,e,λv z=>by rw[d,0] at z⟩]
 keep:=λi h h' st k=>st.at λo e=>k it (by simp) o e
 item:=by
  rw[24];subst hP hw hK;erw[hg,xs,x,hq,hx];erw[I.list hq,its,rv,p,hz];erw[rv.get hx,u,hu,ru];rw[21]
  refine Rx st p.isList (x:=u) (by simpa using hu) λh' U sb=>?_
  let I1:Inv X oq σ H {s with heap:=h'}:=I.turned (t':=s.toks) (λb o O e=>(sb.2 b O).trans e) f0 f1 f3 f4 f5
  erw[id U,o,e,c,d,<-⟨u,1,DN (s:={s with heap:=h'}) e c d () (x,H,I1,ru,⟨1,λys hy=>by rwa[I.list_inj hy hq]⟩,U,λb O=>(hf b O).1)⟩]
 done:=by
  rw[24];subst hP hw hK;erw[hg,xs,hq,hx];erw[I.list hq,its,rv,p,hz];rw[21]
  let hl:=↑rv;exact pA (I.ok.hd hc) st p.isList (by simp;omega) λh' eb=>[1:I.turned (t':=s.toks) (λb o O e=>eb b o O e) f0 f1 f3 f4 f5]
 self:=λ_ _ _ _ _ st h=>wpAny_pyIter_listiter st h
def Ko {P:o9}(a it:o3):Sw P w K tg (Itt K a) [it] it (λi h=>h.IsTupleIter it a i) where
 mem:=by simp
 obj:=λi h st b O=>by
  let e:b=it:=by simpa using O
  subst e;erw[st,o,e,c,d,<-⟨o,e,λv z=>by rw[d,0] at z⟩]
 keep:=λi h h' st k=>st.at λo e=>k it (by simp) o e
 item:=by
  rw[24];subst hP hw hK;erw[hg,xs,x,hq,hx];erw[I.tuple hq,its,rv,p,hz];erw[rv.get hx,u,hu,ru];rw[21]
  refine wpAny_pyNext_tuple_item st (show s.heap.IsTuple a its.toArray from p) (x:=u) (by simpa using hu) λh' U sb=>?_
  let I1:Inv X oq σ H {s with heap:=h'}:=I.turned (t':=s.toks) (λb o O e=>(sb.2 b O).trans e) f0 f1 f3 f4 f5
  erw[id U,o,e,c,d,<-⟨u,1,DN (s:={s with heap:=h'}) e c d () (x,H,I1,ru,⟨1,λys hy=>by rwa[I.tuple_inj hy hq]⟩,U,λb O=>(hf b O).1)⟩]
 done:=by
  rw[24];subst hP hw hK;erw[hg,xs,hq,hx];erw[I.tuple hq,its,rv,p,hz];rw[21]
  let hl:=↑rv;exact wpAny_pyNext_tuple_end (I.ok.hd hc) st (show s.heap.IsTuple a its.toArray from p) (by simp;omega) λh' eb=>[1:I.turned (t':=s.toks) (λb o O e=>eb b o O e) f0 f1 f3 f4 f5]
 self:=λ_ _ _ _ _ st h=>wpAny_pyIter_tupleiter st h
def Df {P:o9}(it:o3)(lo:Int)(n:Nat):Sw P w K tg (Itr lo n) [it] it (λi h=>Pq h it (lo+(i:Nat)*1) ((n:Int)-(i:Nat)) 1) where
 mem:=by simp
 obj:=λi h st b O=>by
  let e:b=it:=by simpa using O
  subst e;exact⟨_,st,λv z=>by
   let z':Data.fields _=Data.cell v:=z;rw[z',0]⟩
 keep:=λi h h' st k=>k it (by simp) _ st
 item:=by
  rw[24];subst hP hw hK;rw[21]
  let W:=Walks.range (prog:=X.prog) (w:=X.w) (I.ok.hd hc) it lo 1 n;refine uQ (n:=1) I.tk (W.item i s _ _ hg st λv h' tk hv U kk=>?_);intro htk;erw[hv,t,rfl];let I1:Inv X oq σ H {s with heap:=h',toks:=tk}:=I.turned (λb o O e=>kk b o (by simpa using O) e) f0 f1 f3 f4 f5
  rw[0,DN (s:={s with heap:=h',toks:=tk}) (n:="range_iterator") U rfl rfl () (.int (lo+i),H,I1,[t:?_],[1:1],U,λb O=>(hf b O).1)]
  rw[Int.mul_one]
 done:=by
  rw[24];subst hP hw hK;rw[21]
  exact wpAny_pyNext_range_end (I.ok.hd hc) st (by have:n<=i:=hg;omega) λh' eb=>[1:I.turned (t':=s.toks) (λb o O e=>eb b o O e) f0 f1 f3 f4 f5]
 self:=λ_ _ _ _ _ st h=>wpAny_pyIter_rangeiter st h
section
variable {X:Cx}{tg:Expr}
inductive AeC (K:PySem.W.Frag)(R:(It->Hp->Prop))(x:V)(H1:Hp):Prop
 |mk (a:_)(_:x=-a)(_:(∃xs,SqL K H1 a xs))(_:R (Itl K a) H1)
abbrev Afw (K:o0)(tl:TE):TI:=λσ H R=>tl σ H λx H1=>AeC K R x H1
inductive AfS (K:PySem.W.Frag)(R:(It->Hp->Prop))(x:V)(H1:Hp):Prop
 |mk (a:_)(_:x=-a)(_:(∃xs,SqT K H1 a xs))(_:R (Itt K a) H1)
abbrev AgN (K:o0)(tl:TE):TI:=λσ H R=>tl σ H λx H1=>AfS K R x H1
def Zy {l:Expr}{tl:TE}(U:PE X l tl):PI X tg l (Afw X.K tl):=by
 rw[2,R,I,h];refine thn (U oq s σ H _ I h) λv s1 zq=>?_;erw[zq,x,H1,O,r1,q1];erw[q1,a,e,[xs,hq],q];subst e;rw[r1,0];erw[O.list hq,its,rv,p,hz];refine Vk p.isList ?_;rw[_,#[0,s1],[#[0,s1]],_,_,H1,1,O.kept (t':=s1.toks) λb o e=>ug _ e,D3 a _,(_,uC _ rfl,1,1),λb hb=>?_,q];let e:b=#[0,s1]:=by simpa using hb
 subst e;exact O.fpOk (Vv _) (O.hok.fresh (Vv _))
def Cq {l:Expr}{tl:TE}(U:PE X l tl):PI X tg l (AgN X.K tl):=by
 rw[2,R,I,h];refine thn (U oq s σ H _ I h) λv s1 zq=>?_;erw[zq,x,H1,O,r1,q1];erw[q1,a,e,[xs,hq],q];subst e;rw[r1,0];erw[O.tuple hq,its,rv,p,hz];refine FG (show s1.heap.IsTuple a its.toArray from p) ?_
 rw[_,#[0,s1],[#[0,s1]],_,_,H1,1,O.kept (t':=s1.toks) λb o e=>ug _ e,Ko a _,(_,uC _ rfl,1,1),λb hb=>?_,q];let e:b=#[0,s1]:=by simpa using hb
 subst e;exact O.fpOk (Vv _) (O.hok.fresh (Vv _))
def Cn {oq:#[16]}{σ:St}{H:Hp}{s:o7}{R:It->Hp->Prop}{E:#[14]}{lo hi:Int}{t u v:Tok}{tk:Nat}(I:#[I])(h1: -(2^62)<=lo)(h2:lo<2^62)(h3: -(2^62)<=hi)(h4:hi<2^62)
  (q:R (Itr lo (hi-lo).toNat) H) (htk:0<tk:=by ac_rfl):Vu #[X,X] X.A (Ta (.ref #[0,s])) (PIE X oq σ tg R) E {s with heap:=s.heap.push {cls:= .type "range",data:= .fields #[.int lo t,.int hi u,.int 1 v]},toks:=tk}:=by
 refine wpAny_pyIter_range (IsRange.new ..) (small_one h1 h2 h3 h4) ?_;let O:Inv X oq σ H {s with heap:=s.heap.push {cls:= .type "range",data:= .fields #[.int lo t,.int hi u,.int 1 v]},toks:=tk}:=I.kept λb o e=>ug _ e
 refine((s.heap.push {cls:= .type "range",data:= .fields #[.int lo t,.int hi u,.int 1 v]}).objs.size,[(s.heap.push {cls:= .type "range",data:= .fields #[.int lo t,.int hi u,.int 1 v]}).objs.size],_,_,H,1,
  O.kept (t':=tk) λb o e=>ug _ e,Df _ lo (hi-lo).toNat,?_,λb U=>?_,q)
 .let e1:lo+((0:Nat):Int)*1=lo:=by simp
  let e2:(((hi-lo).toNat:Nat):Int)-((0:Nat):Int)=oX lo hi 1:=by rw[rangeSize_one];split<;>omega
  show Pq _ _ (lo+((0:Nat):Int)*1) ((((hi-lo).toNat:Nat):Int)-((0:Nat):Int)) 1;rw[e1,e2];exact uC _ rfl
 .let e:b=(s.heap.push {cls:= .type "range",data:= .fields #[.int lo t,.int hi u,.int 1 v]}).objs.size:=by simpa using U
  subst e;exact O.fpOk (Vv _) (O.hok.fresh (Vv _))
inductive AeB (R:(It->Hp->Prop))(vs:List V)(H1:Hp):Prop
 |mk (j:Int)(_:vs= [.int j])(_: -(2^62)<=j)(_:j<2^62)(_:R (Itr 0 j.toNat) H1)
abbrev Afu (ta:TA):TI:=λσ H R=>ta σ H λvs H1=>AeB R vs H1
inductive AeA (R:(It->Hp->Prop))(vs:List V)(H1:Hp):Prop
 |mk (i j:Int)(_:vs= [.int i,.int j])(_:(-(2^62)<=i/\i<2^62/\ -(2^62)<=j/\j<2^62))(_:R (Itr i (j-i).toNat) H1)
abbrev Aft (ta:TA):TI:=λσ H R=>ta σ H λvs H1=>AeA R vs H1
def YJ {a:Expr}{ta:TA}{p pos:Pos}(O:Gl X "range")(hm:X.mg "range"=U_)(ha:PA X [a] ta)(U:VA [a] X.env= [(Vt,eval a X.env)]):PI X tg (.Call (.Name "range" p) [a] [] pos) (Afu ta):=by
 rw[2,R,I,h];refine T5 (x8 I O hm boot_range (vf (thn (ha pos oq s σ H _ I h) λus s1 zq=>?_) U rfl));erw[zq,vs,H1,I1,r1,q1];erw[q1,j,e,q1,q2,q];subst e;cases r1 with
 |cons r rr=>
  rw[rr,0];erw[r,t,rfl,<-call_range_1 (Cn I1 () () q1 q2 (by simpa using q))]
def sY {a b:Expr}{ta:TA}{p pos:Pos}(U:Gl X "range")(hm:X.mg "range"=U_)(ha:PA X [a,b] ta)(hs:VA [a,b] X.env= [(Vt,eval a X.env),(Vt,eval b X.env)])(O:VA [b] X.env= [(Vt,eval b X.env)]):
  PI X tg (.Call (.Name "range" p) [a,b] [] pos) (Aft ta):=by
 rw[2,R,I,h];refine T5 (x8 I U hm boot_range (vf (thn (ha pos oq s σ H _ I h) λus s1 zq=>?_) (by rw[hs,O]) (by rw[O];rfl)));erw[zq,vs,H1,I1,r1,q1]
 erw[q1,i,j,e,[q1,q2,q3,q4],q];subst e;cases r1 with
 |cons r rr=>
  cases rr with
  |cons r' rr=>
   rw[rr,0];erw[r,t,rfl];erw[r',t',rfl,<-call_range_2 (Cn I1 q1 q2 q3 q4 q)]
abbrev Af3 (wi:TI)(g:TG)(tb:TS):TS:=λD σ H=>wi σ H λJ H1=>∃W:Nat->Nat->St->Hp->Prop,(∃m,W 0 m σ H1)/\∀i m σ H,W i m σ H->
 (J.stop i H/\D.nx σ H)\/(J.go i H/\∃N:St->Hp->Prop,(∀σ' H',N σ' H'->∃m',m'<m/\W (i+1) m' σ' H')/\∀x H',J.yld i H x H'->g x σ H' λσ2 H2=>tb {D with nx:=N,ct:=N,bk:=D.nx} σ2 H2)
abbrev sX (fp:oj o3)(h:o8):#[16]:=fp.filterMap λb=>(h.get? b).map λo=>(b,o)
variable {fp:oj o3}
def xp (O:b>fp)(e:h.get? b=u_ o):(b,o)>sX fp h:=List.mem_filterMap.mpr ⟨b,O,by rw[e];rfl⟩
def Ir {p:o3×Obj}(O:p>sX fp h):p.1>fp/\h.get? p.1=u_ p.2:=by
 erw[List.mem_filterMap.mp O,b,U,e];cases q:h.get? b with
 |none=>rw[q,0] at e|some o=>
  rw[q] at e;let e':(b,o)=p:=uJ e;subst e';exact[U:q]
def Inv.pinned (I:#[I])(hf:∀b>fp,B6 X oq H b)(ho:∀b>fp,∃o,s.heap.get? b=u_ o/\∀v,o.data≠ .cell v):Inv X (oq++sX fp s.heap) σ H s:=
 I.pins_of λp hp=>(Ae.mp hp).elim (λz=>I.pin p (uV _ z)) λz=>by
  erw[Ir z,O,e];erw[hf p.1 O,f0,f1,f2,_];erw[ho p.1 O,o,U,d];rw[e,0] at U;exact(e,f0,f1,f2,d)
def Inv.unpinned {pl:#[16]}(I:Inv X (oq++pl) σ H s):#[I]:=I.pins_of λp O=>I.pin p (uV _ (vL _ O))
def YH {O:Expr}{ad:oj Stmt}{wi:TI}{g:TG}{tb:TS}{pos:Pos}(hp:PassesOwn #[X,X] X.A X.env X.xe)(hc:X.calm=v_)(hi:PI X tg O wi)(hg:PG X tg g)(U:PSs X ad tb)
  (hs:∀x,TU O X.env x=pure x):PS X (.For tg O ad [] pos) (Af3 wi g tb):=by
 rw[2,D,I,h];refine wpAny_For (thn (hi oq s σ H _ I h) λv s1 h1=>thn h1 λao s2 h2=>?_) hs;erw[h2,it,fp,tn,J,H2,e,I2,T,ak,f2,W,[m0,w0],af];subst e;let aa:∀{H':Hp},(∀b>fp,H' b=U_)->∀b>fp,B6 X oq H' b:=λhn b U=>[hn b U:(f2 b U).2];refine codeAny_forLoop_any (λn s'=>∃i σ' H',Inv X oq σ' H' s'/\tn i s'.heap/\(∀b>fp,H' b=U_)/\W i n σ' H') ?_ m0 ((0),σ,H2,I2,ak,λb U=>(f2 b U).1,w0);rintro n s3 ⟨i,σ3,H3,I3,ag,ah,w3⟩;rcases af i n σ3 H3 w3 with⟨stop,qn⟩|⟨go,N,hN,step⟩
 .refine Us hp (thn (T.done X rfl rfl rfl hc i oq s3 σ3 H3 X.xe I3 (aa ah) ag stop) λr s4 zq=>?_);erw[zq,hr,I4];subst hr;exact UN (σ3,H3,I4,qn)
 .refine Us hp (thn (T.item X rfl rfl rfl hc i oq s3 σ3 H3 X.xe I3 (aa ah) ag go) λr s4 zq=>?_);erw[zq,u,hr,h4];subst hr;refine Us hp (thn h4 λ_ s5 zq=>?_);erw[zq,x,H5,I5,r5,y5,ae,al];let am:=I5.pinned (aa al) (T.obj _ _ ae);refine Us hp (thn (hg _ s5 σ3 H5 x u _ am r5 (step x H5 y5)) λ_ s6 zq=>?_);erw[zq,σ6,H6,I6,q6];refine Us hp (thn (U _ s6 σ6 H6 _ I6 q6) λf s7 q7=>?_);let ac:∀{σ7:St}{H7:Hp},Inv X (oq++sX fp s5.heap) σ7 H7 s7->N σ7 H7->∃m,m<n/\∃i σ' H',Inv X oq σ' H' s7/\tn i s7.heap/\(∀b>fp,H' b=U_)/\W i m σ' H':=λ{σ7 H7} I7 n7=>by
   erw[hN σ7 H7 n7,m',hm,w7];rw[_,m',hm,i+1,σ7,H7,I7.unpinned,T.keep _ _ _ ae λb U o e=>(I7.pin (b,o) (uV _ (uV _ (xp U e)))).1,λb U=>?_,w7];erw[T.obj _ _ ae b U,o,e,d,<-(I7.pin (b,o) (uV _ (uV _ (xp U e)))).2.1]
  cases f with
  |next=>erw[q7,σ7,H7,I7,n7,<-ac I7 n7]|cont=>erw[q7,σ7,H7,I7,n7,<-ac I7 n7]|brk=>erw[q7,σ7,H7,I7,q7,<-(σ7,H7,I7.unpinned,q7)]|ret v=>erw[q7,x7,σ7,H7,I7,r7,q7,<-(x7,σ7,H7,I7.unpinned,r7,q7)]
end
def zy {K:o0}{a:o3}{xs:oj V}{g:TG}{tb:TS}{D:mV}{σ:St}{H:Hp}(O:Nat->St->Hp->Prop)(h0:O 0 σ H)(hl:∀i σ H,i<=↑xs->O i σ H->SqL K H a xs)
  (hs:∀i x σ H,xs[i]? =u_ x->O i σ H->g x σ H λσ2 H2=>tb {D with nx:=O (i+1),ct:=O (i+1),bk:=D.nx} σ2 H2) (hd:∀σ H,O ↑xs σ H->D.nx σ H):
  ∃W:Nat->Nat->St->Hp->Prop,(∃m,W 0 m σ H)/\∀i m σ H,W i m σ H->
   ((Itl K a).stop i H/\D.nx σ H)\/((Itl K a).go i H/\∃N:St->Hp->Prop,(∀σ' H',N σ' H'->∃m',m'<m/\W (i+1) m' σ' H')/\∀x H',(Itl K a).yld i H x H'->g x σ H' λσ2 H2=>tb {D with nx:=N,ct:=N,bk:=D.nx} σ2 H2):=by
 rw[_,λi m σ H=>m=↑xs-i/\i<=↑xs/\O i σ H,(↑xs,by simp,uN _,h0)]
 rintro i m σ H ⟨rfl,hi,p⟩;let q:=hl i σ H hi p;by_cases U:i<↑xs
 .refine .inr ((xs,xs[i],q,by simp[U]),O (i+1),λσ' H' p'=>(↑xs-(i+1),(),1,U,p'),λx H' y=>?_)
  erw[y,e,y];subst e;exact hs i x σ _ (y xs q) p
 .let e:i=↑xs:=by omega
  subst e;exact .inl [[xs:q:Vv _]:hd σ H p]
def qaI {K:o0}{a:o3}{xs:oj V}{g:TG}{tb:TS}{D:mV}{σ:St}{H:Hp}(O:Nat->St->Hp->Prop)(h0:O 0 σ H)(hl:∀i σ H,i<=↑xs->O i σ H->SqT K H a xs)
  (hs:∀i x σ H,xs[i]? =u_ x->O i σ H->g x σ H λσ2 H2=>tb {D with nx:=O (i+1),ct:=O (i+1),bk:=D.nx} σ2 H2) (hd:∀σ H,O ↑xs σ H->D.nx σ H):
  ∃W:Nat->Nat->St->Hp->Prop,(∃m,W 0 m σ H)/\∀i m σ H,W i m σ H->
   ((Itt K a).stop i H/\D.nx σ H)\/((Itt K a).go i H/\∃N:St->Hp->Prop,(∀σ' H',N σ' H'->∃m',m'<m/\W (i+1) m' σ' H')/\∀x H',(Itt K a).yld i H x H'->g x σ H' λσ2 H2=>tb {D with nx:=N,ct:=N,bk:=D.nx} σ2 H2):=by
 rw[_,λi m σ H=>m=↑xs-i/\i<=↑xs/\O i σ H,(↑xs,by simp,uN _,h0)]
 rintro i m σ H ⟨rfl,hi,p⟩;let q:=hl i σ H hi p;by_cases U:i<↑xs
 .refine .inr ((xs,xs[i],q,by simp[U]),O (i+1),λσ' H' p'=>(↑xs-(i+1),(),1,U,p'),λx H' y=>?_)
  erw[y,e,y];subst e;exact hs i x σ _ (y xs q) p
 .let e:i=↑xs:=by omega
  subst e;exact .inl [[xs:q:Vv _]:hd σ H p]
def W1 {lo:Int}{n:Nat}{g:TG}{tb:TS}{D:mV}{σ:St}{H:Hp}(O:Nat->St->Hp->Prop)(h0:O 0 σ H)
  (hs:∀i σ H,i<n->O i σ H->g (.int (lo+i)) σ H λσ2 H2=>tb {D with nx:=O (i+1),ct:=O (i+1),bk:=D.nx} σ2 H2) (hd:∀σ H,O n σ H->D.nx σ H):
  ∃W:Nat->Nat->St->Hp->Prop,(∃m,W 0 m σ H)/\∀i m σ H,W i m σ H->
   ((Itr lo n).stop i H/\D.nx σ H)\/((Itr lo n).go i H/\∃N:St->Hp->Prop,(∀σ' H',N σ' H'->∃m',m'<m/\W (i+1) m' σ' H')/\∀x H',(Itr lo n).yld i H x H'->g x σ H' λσ2 H2=>tb {D with nx:=N,ct:=N,bk:=D.nx} σ2 H2):=by
 rw[_,λi m σ H=>m=n-i/\i<=n/\O i σ H,(n,by simp,uN _,h0)]
 rintro i m σ H ⟨rfl,hi,p⟩;by_cases U:i<n
 .refine .inr (U,O (i+1),λσ' H' p'=>(n-(i+1),(),1,U,p'),λx H' y=>?_)
  erw[y,e,y];subst e y;exact hs i σ _ U p
 .let e:i=n:=by omega
  subst e;exact .inl [Vv _:hd σ H p]
nonrec abbrev R2:=V->V->Hp->VK->Prop
abbrev OpR (X:Cx)(f:o6->o6->Sem o6)(r:R2):Prop:=
 ∀(oq:#[16]) (s:o7) (σ:St) (H:Hp) (x y:V) (v u:o6) (Q:VK),#[I]->ii x v->ii y u->r x y H Q->
  Vu #[X,X] X.A (f v u) (EP X oq σ Q) X.xe s
abbrev UnR (X:Cx)(f:o6->Sem o6)(r:V->Hp->VK->Prop):Prop:=
 ∀(oq:#[16]) (s:o7) (σ:St) (H:Hp) (x:V) (v:o6) (Q:VK),#[I]->ii x v->r x H Q->
  Vu #[X,X] X.A (f v) (EP X oq σ Q) X.xe s
abbrev yT (X:Cx)(f:o6)(r:oj V->Hp->VK->Prop):Prop:=
 ∀(oq:#[16]) (s:o7) (σ:St) (H:Hp) (xs:oj V) (us:oj o6) (Q:VK),#[I]->im xs us->r xs H Q->
  Vu #[X,X] X.A (call f us) (EP X oq σ Q) X.xe s
abbrev AgS (X:Cx)(r:V->Hp->(Bool->Hp->Prop)->Prop):Prop:=
 ∀(oq:#[16]) (s:o7) (σ:St) (H:Hp) (x:V) (v:o6) (Q:Bool->Hp->Prop),#[I]->ii x v->r x H Q->
  Vu #[X,X] X.A (truthy v) (TP X oq σ Q) X.xe s
abbrev tOp (r:R2)(ta tb:TE):TE:=λσ H Q=>ta σ H λx H1=>tb σ H1 λy H2=>r x y H2 Q
abbrev tUn (r:V->Hp->VK->Prop)(ta:TE):TE:=λσ H Q=>ta σ H λx H1=>r x H1 Q
inductive rI (C:Int->Int->Prop)(g:Int->Int->V)(x:V)(y:V)(H:Hp)(Q:VK):Prop
 |mk (i:_)(j:_)(_:x= .int i)(_:y= .int j)(_:C i j)(_:Q (g i j) H)
inductive rI0 (g:Int->Int->V)(x:V)(y:V)(H:Hp)(Q:VK):Prop
 |mk (i:_)(j:_)(_:x= .int i)(_:y= .int j)(_:Q (g i j) H)
inductive rU (g:Int->V)(x:V)(H:Hp)(Q:VK):Prop
 |mk (i:_)(_:x= .int i)(_:Q (g i) H)
section
variable {X:Cx}{a b c:Expr}{ta tb tc:TE}{pos:Pos}
def AfI (ha:PE X a ta)(O:PE X b tb){oq:#[16]}{s:o7}{σ:St}{H:Hp}{R:V->V->Hp->Prop}(I:#[I])
  (h:ta σ H λx H1=>tb σ H1 λy H2=>R x y H2) {Q:#[14]}{f:o6->o6->Sem o6}
  (U:∀v u s2 x y H2,Inv X oq σ H2 s2->ii x v->ii y u->R x y H2->Vu #[X,X] X.A (f v u) Q X.xe s2):
  Vu #[X,X] X.A (eval a X.env) (λv s₁=>Vu #[X,X] X.A (eval b X.env) (λu s₂=>Vu #[X,X] X.A (f v u) Q X.xe s₂) X.xe s₁) X.xe s:=by
 refine thn (ha oq s σ H _ I h) λv s1 zq=>?_;erw[zq,x,H1,I1,r1,q1];refine thn (O oq s1 σ H1 _ I1 q1) λu s2 zq=>?_;erw[zq,y,H2,I2,r2,q2,<-U v u s2 x y H2 I2 r1 r2 q2]
def qV {O:HZ}{r:R2}(U:OpR X (Gf O) r)(ha:PE X a ta)(hb:PE X b tb):PE X (.BinOp a O b pos) (tOp r ta tb):=by
 rw[2,Q,I,h];exact wpAny_BinOp (AfI ha hb I h λv u s2 x y H2 I2 rx ry q=>U oq s2 σ H2 x y v u Q I2 rx ry q)
def Adi {O:UnaryOp}{r:V->Hp->VK->Prop}(U:UnR X (unaryOp O) r)(ha:PE X a ta):PE X (.UnaryOp O a pos) (tUn r ta):=by
 rw[2,Q,I,h];exact UnaryOp_ (thn (ha oq s σ H _ I h) λv s1 ⟨x,H1,I1,r1,q1⟩=>U oq s1 σ H1 x v Q I1 r1 q1)
def opI {f:o6->o6->Sem o6}{C:Int->Int->Prop}{g:Int->Int->Int}
  (rule:∀(i j:Int) (t u:Tok) (s:o7) (Q:#[14]) (E:#[14]),C i j->Q (.int (g i j) s.toks) {s with toks:=s.toks+1}->Vu #[X,X] X.A (f (.int i t) (.int j u)) Q E s):
  OpR X f (rI C λi j=> .int (g i j)):=by
 rw[2,x,y,v,u,Q,I,O,U,h];erw[h,i,j,rfl,rfl,hc,q];erw[O,t,rfl];erw[U,t',rfl,<-rule i j t t' s _ _ hc (.int (g i j),H,I.tok _,⟨0⟩,q)]
def Agd {f:o6->o6->Sem o6}{g:Int->Int->Int}
  (rule:∀(i j:Int) (t u:Tok) (s:o7) (Q:#[14]) (E:#[14]),Q (.int (g i j) s.toks) {s with toks:=s.toks+1}->Vu #[X,X] X.A (f (.int i t) (.int j u)) Q E s):
  OpR X f (rI0 λi j=> .int (g i j)):=by
 rw[2,x,y,v,u,Q,I,O,U,h];erw[h,i,j,rfl,rfl,q];erw[O,t,rfl];erw[U,t',rfl,<-rule i j t t' s _ _ (.int (g i j),H,I.tok _,⟨0⟩,q)]
def AeH {f:o6->o6->Sem o6}{g:Int->Int->Bool}
  (rule:∀(i j:Int) (t u:Tok) (s:o7) (Q:#[14]) (E:#[14]),Q (.bool (g i j)) s->Vu #[X,X] X.A (f (.int i t) (.int j u)) Q E s):
  OpR X f (rI0 λi j=> .bl (g i j)):=by
 rw[2,x,y,v,u,Q,I,O,U,h];erw[h,i,j,rfl,rfl,q];erw[O,t,rfl];erw[U,t',rfl,<-rule i j t t' s _ _ (.bl (g i j),H,I,1,q)]
abbrev AgY (i j:Int):Prop:=0<j/\j<1073741824
abbrev AgX (i j:Int):Prop:=0<=j/\j<=1000000/\i.natAbs<2^64
abbrev AeM (i j:Int):Prop:=(-(2^64)<i/\i<2^64)\/(-(2^64)<j/\j<2^64)
def AeM.ok {i j:Int}(h:AeM i j):IntMulOk i j:=by
 rcases h with⟨h1,h2⟩|⟨h1,h2⟩
 .exact .of_left (Pp h1 h2)
 .exact .of_right (Pp h1 h2)
def yy:OpR X (Gf .Add) (rI0 λi j=> .int (i+j)):=Agd λ_ _ _ _ _ _ _ q=>add_int q
def OQ:OpR X (Gf .Sub) (rI0 λi j=> .int (i-j)):=Agd λ_ _ _ _ _ _ _ q=>sub_int q
def wr:OpR X (Gf .Mult) (rI AeM λi j=> .int (i*j)):=opI λ_ _ _ _ _ _ _ O q=>mul_int q O.ok
def Bx:OpR X (Gf .FloorDiv) (rI AgY λi j=> .int (i/j)):=opI λi j _ _ _ _ _ O q=>by
 let h1:(0:Int)<j:=O.1;let h2:j<1073741824:=O.2;exact floordiv_int () (by rwa[Int.fdiv_eq_ediv_of_nonneg i ()]) (.inl (PyProof.noPylong_small ()))
def Y5:OpR X (Gf .Mod) (rI (λ_ j=>0<j) λi j=> .int (i%j)):=opI λi j _ _ _ _ _ O q=>by
 let h1:(0:Int)<j:=O;exact mod_int' () (by rwa[Int.fmod_eq_emod_of_nonneg i ()])
def OR:OpR X (Gf .Pow) (rI AgX λi j=> .int (i^j.toNat)):=opI λ_ _ _ _ _ _ _ O q=>pow_int_small O.1 O.2.1 O.2.2 q
def unI {f:o6->Sem o6}{g:Int->Int}
  (rule:∀(i:Int) (t:Tok) (s:o7) (Q:#[14]) (E:#[14]),Q (.int (g i) s.toks) {s with toks:=s.toks+1}->Vu #[X,X] X.A (f (.int i t)) Q E s):
  UnR X f (rU λi=> .int (g i)):=by
 rw[2,x,v,Q,I,O,h];erw[h,i,rfl,q];erw[O,t,rfl,<-rule i t s _ _ (.int (g i),H,I.tok _,⟨0⟩,q)]
def Os:UnR X (unaryOp .USub) (rU λi=> .int (-(i))):=unI λ_ _ _ _ _ q=>neg_int q
abbrev Af5:V->V->Bool
 | .non,.non=>v_| .non,.int _=>v_| .int _,.non=>v_| .non,.bl _=>v_| .bl _,.non=>v_| .non,.str _=>v_| .str _,.non=>v_
 | .int _,.int _=>v_| .bl _,.bl _=>v_| .str _,.str _=>v_| .byt _,.byt _=>v_
 | .int _,.str _=>v_| .str _,.int _=>v_| .bl _,.str _=>v_| .str _,.bl _=>v_
 |_,_=>Vt
abbrev rEq:R2:=λx y H Q=>Af5 x y=v_/\Q (.bl (decide (x=y))) H
abbrev rNe:R2:=λx y H Q=>Af5 x y=v_/\Q (.bl (!(decide) (x=y))) H
def LK {i j:Int}:decide (V.int i=V.int j)=(i==j):=by
 rw[vF];simp
def So {i j:Bool}:decide (V.bl i=V.bl j)=(i==j):=by
 rw[vF];simp
def LJ {i j:Str}:decide (V.str i=V.str j)=(i==j):=by
 rw[vF];simp
def LM {i j:Array UInt8}:decide (V.byt i=V.byt j)=(i.toList==j.toList):=by
 rw[vF];rw[i,0];rw[j,0];simp
variable {Q:VK}
def Qp {k O:Bool}(I:#[I])(q:Q (.bl k) H)(e:k=O):EP X oq σ Q (.bool O) s:=by
 subst e;exact(.bl k,H,I,1,q)
def Qn:OpR X (VM .Eq) rEq:=by
 rw[2,x,y,v,u,Q,I,rx,O,h];erw[h,U,q];cases x with
 |non=>
  rw[rx,0];cases y with
  |non=>rw[O,0];exact PySem.EqNone.eq_none_none (Qp I q (by simp))|bl j=>rw[O,0];exact PySem.EqNone.eq_none_bool (Qp I q (by simp))|int j=>erw[O,t',rfl,<-PySem.EqNone.eq_none_int (Qp I q (by simp))]|str j=>erw[O,t',rfl,<-PySem.EqNone.eq_none_str (Qp I q (by simp))]|_=>exact A9 (show Vt=v_ from U) uh
 |bl i=>
  rw[rx,0];cases y with
  |non=>rw[O,0];exact PySem.EqNone.eq_bool_none (Qp I q (by simp))|bl j=>rw[O,0];exact eq_bool (Qp I q So)|str j=>erw[O,t',rfl,<-PySem.EqMixed.eq_bool_str (Qp I q (by simp))]|_=>exact A9 (show Vt=v_ from U) uh
 |int i=>
  erw[rx,t,rfl];cases y with
  |non=>rw[O,0];exact PySem.EqNone.eq_int_none (Qp I q (by simp))|int j=>erw[O,t',rfl,<-eq_int (Qp I q LK)]|str j=>erw[O,t',rfl,<-PySem.EqMixed.eq_int_str (Qp I q (by simp))]|_=>exact A9 (show Vt=v_ from U) uh
 |str i=>
  erw[rx,t,rfl];cases y with
  |non=>rw[O,0];exact PySem.EqNone.eq_str_none (Qp I q (by simp))|bl j=>rw[O,0];exact PySem.EqMixed.eq_str_bool (Qp I q (by simp))|int j=>erw[O,t',rfl,<-PySem.EqMixed.eq_str_int (Qp I q (by simp))]|str j=>erw[O,t',rfl,<-eq_str (Qp I q LJ)]|_=>exact A9 (show Vt=v_ from U) uh
 |byt i=>
  erw[rx,t,rfl];cases y with
  |byt j=>erw[O,t',rfl,<-PySem.W.eq_bytes (Qp I q LM)]|_=>exact A9 (show Vt=v_ from U) uh
 |_=>cases y<;>exact A9 (show Vt=v_ from U) uh
def M3:OpR X (VM .NotEq) rNe:=by
 rw[2,x,y,v,u,Q,I,rx,O,h];erw[h,U,q];cases x with
 |non=>
  rw[rx,0];cases y with
  |non=>rw[O,0];exact PySem.EqNone.ne_none_none (Qp I q (by simp))|bl j=>rw[O,0];exact PySem.EqNone.ne_none_bool (Qp I q (by simp))|int j=>erw[O,t',rfl,<-PySem.EqNone.ne_none_int (Qp I q (by simp))]|str j=>erw[O,t',rfl,<-PySem.EqNone.ne_none_str (Qp I q (by simp))]|_=>exact A9 (show Vt=v_ from U) uh
 |bl i=>
  rw[rx,0];cases y with
  |non=>rw[O,0];exact PySem.EqNone.ne_bool_none (Qp I q (by simp))|bl j=>rw[O,0];exact ne_bool (Qp I q (Aa not So))|str j=>erw[O,t',rfl,<-PySem.EqMixed.ne_bool_str (Qp I q (by simp))]|_=>exact A9 (show Vt=v_ from U) uh
 |int i=>
  erw[rx,t,rfl];cases y with
  |non=>rw[O,0];exact PySem.EqNone.ne_int_none (Qp I q (by simp))|int j=>erw[O,t',rfl,<-ne_int (Qp I q (Aa not LK))]|str j=>erw[O,t',rfl,<-PySem.EqMixed.ne_int_str (Qp I q (by simp))]|_=>exact A9 (show Vt=v_ from U) uh
 |str i=>
  erw[rx,t,rfl];cases y with
  |non=>rw[O,0];exact PySem.EqNone.ne_str_none (Qp I q (by simp))|bl j=>rw[O,0];exact PySem.EqMixed.ne_str_bool (Qp I q (by simp))|int j=>erw[O,t',rfl,<-PySem.EqMixed.ne_str_int (Qp I q (by simp))]|str j=>erw[O,t',rfl,<-ne_str (Qp I q (Aa not LJ))]|_=>exact A9 (show Vt=v_ from U) uh
 |byt i=>
  erw[rx,t,rfl];cases y with
  |byt j=>erw[O,t',rfl,<-PySem.W.ne_bytes (Qp I q (Aa not LM))]|_=>exact A9 (show Vt=v_ from U) uh
 |_=>cases y<;>exact A9 (show Vt=v_ from U) uh
def Dy:OpR X (VM .Lt) (rI0 λi j=> .bl (decide (i<j))):=AeH λ_ _ _ _ _ _ _ q=>lt_int q
def EX:OpR X (VM .LtE) (rI0 λi j=> .bl (decide (i<=j))):=AeH λ_ _ _ _ _ _ _ q=>le_int q
def qax:OpR X (VM .Gt) (rI0 λi j=> .bl (decide (j<i))):=AeH λ_ _ _ _ _ _ _ q=>gt_int q
def Afk:OpR X (VM .GtE) (rI0 λi j=> .bl (decide (j<=i))):=AeH λ_ _ _ _ _ _ _ q=>ge_int q
def EW:OpR X (VM .Lt) (λx y H Q=>∃i j,x= .str i/\y= .str j/\Q (.bl (decide (i.cps.toList<j.cps.toList))) H):=by
 rw[2,x,y,v,u,Q,I,O,U,h];erw[h,i,j,rfl,rfl,q];erw[O,t,rfl];erw[U,t',rfl,<-lt_str (Qp I q rfl)]
def EY:OpR X (VM .In) (λx y H Q=>∃i j,x= .str i/\y= .str j/\Q (.bl (!(tj j i 0 ↑j 1).isEmpty)) H):=by
 rw[2,x,y,v,u,Q,I,O,U,h];erw[h,i,j,rfl,rfl,q];erw[O,t,rfl];erw[U,t',rfl,<-in_str (Qp I q rfl)]
def Yz:OpR X (VM .Is) (λx y H Q=>y= .non/\Q (.bl (decide (x= .non))) H):=by
 rw[2,x,y,v,u,Q,I,O,U,h];erw[h,rfl,q];rw[U,0];refine is_none_gen (Qp I q ?_);cases x<;>first
  |(rw[O,0];rfl)
  |(erw[O,t,rfl];rfl)
def KN:OpR X (VM .IsNot) (λx y H Q=>y= .non/\Q (.bl (!(decide) (x= .non))) H):=by
 rw[2,x,y,v,u,Q,I,O,U,h];erw[h,rfl,q];rw[U,0];refine isnot_none_gen (Qp I q ?_);cases x<;>first
  |(rw[O,0];rfl)
  |(erw[O,t,rfl];rfl)
def qx (b:Expr){O:Hj}(h:O≠ .In:=by decide)(h2:O≠ .NotIn:=by decide):HN O b=false:=by
 let U:(O==CmpOp.In)=false:=by cases O<;>first|rfl|exact A9 rfl h
 let e2:(O==CmpOp.NotIn)=false:=by cases O<;>first|rfl|exact A9 rfl h2
 cases b<;>simp[HN,U,e2]
def yQ {O:Hj}{r:R2}(U:OpR X (VM O) r)(ha:PE X a ta)(hb:PE X b tb)(hm:HN O b=Vt):PE X (.Compare a [O] [b] pos) (tOp r ta tb):=by
 rw[2,Q,I,h];exact Pc (AfI ha hb I h λv u s2 x y H2 I2 rx ry q=>U oq s2 σ H2 x y v u Q I2 rx ry q) hm
inductive Aes (Q:(Bool->Hp->Prop))(x:V)(H':Hp):Prop
 |mk (k:_)(_:x= .bl k)(_:Q k H')
abbrev Acz (t:TE):TT:=λσ H Q=>t σ H λx H'=>Aes Q x H'
def qo {O:Hj}{r:R2}(U:OpR X (VM O) r)(ha:PE X a ta)(hb:PE X b tb)(hm:HN O b=Vt):PT X (.Compare a [O] [b] pos) (Acz (tOp r ta tb)):=by
 rw[2,Q,I,h];refine PJ (thn (ha oq s σ H _ I h) λv s1 ⟨x,H1,I1,r1,q1⟩=>thn (hb oq s1 σ H1 _ I1 q1) λu s2 ⟨y,H2,I2,r2,q2⟩=>
  thn (U oq s2 σ H2 x y v u _ I2 r1 r2 q2) λc s3 ⟨z,H3,I3,r3,k,e,q3⟩=>?_) hm
 subst e;rw[r3,0];exact vA [H3:I3:q3]
abbrev AcI (r r':R2)(ta tb tc:TE):TE:=λσ H Q=>ta σ H λx H1=>tb σ H1 λy H2=>r x y H2 λz H3=>∃k,z= .bl k/\
 (if k=v_ then tc σ H3 λw' H4=>r' y w' H4 Q else Q (.bl Vt) H3)
def Cp {U O:Hj}{r r':R2}(ho:OpR X (VM U) r)(aa:OpR X (VM O) r')(ha:PE X a ta)(hb:PE X b tb)(hc:PE X c tc)
  (hm:lastMarks [U,O] [b,c]=Vt):PT X (.Compare a [U,O] [b,c] pos) (Acz (AcI r r' ta tb tc)):=by
 rw[2,Q,I,h];refine isTrue_chain (thn (ha oq s σ H _ I h) λv s1 ⟨x,H1,I1,r1,q1⟩=>test_link (thn (hb oq s1 σ H1 _ I1 q1) λu s2 ⟨y,H2,I2,r2,q2⟩=>
  thn (ho oq s2 σ H2 x y v u _ I2 r1 r2 q2) λd s3 ⟨z,H3,I3,r3,k,e,q3⟩=>?_)) hm
 subst e;rw[r3,0];refine vA ?_;cases k with
 |false=>
  erw[q3,k',e',q'];rw[e',0];exact ite_ff [H3:I3:q']
 |true=>
  refine ite_tt (test_last (thn (hc oq s3 σ H3 _ I3 q3) λw' s4 ⟨z',H4,I4,r4,q4⟩=>thn (aa oq s4 σ H4 y z' u w' _ I4 r2 r4 q4) λd' s5 zq=>?_));erw[zq,z2,H5,I5,r5,k2,e2,q5];subst e2;rw[r5,0];exact vA [H5:I5:q5]
abbrev Agj (K:o0)(x:V)(H:Hp)(k:Bool):Prop:=
 match x with
 | .non=>k=Vt| .bl b=>k=b| .int i=>k=(i !=0)| .str y=>↑y<=Vw/\k=((↑y:Int) !=0)| .byt y=>y.size<=Vw/\k=((y.size:Int) !=0)| .ref p=>(∃xs,SqL K H p xs/\k= !(xs.isEmpty))\/(∃xs,SqT K H p xs/\k= !(xs.isEmpty))\/∃kvs,H p=u_ (.dK kvs)/\k= !(kvs.isEmpty)|_=>False
def DL {κ:Type}{kvs:oj (κ×V)}{vs:oj (κ×o6)}(r:KV kvs vs):(!(vs.isEmpty))= !(kvs.isEmpty):=by
 cases r<;>rfl
variable {its:oj o6}
def Km (r:im xs its):(!(its.toArray.isEmpty))= !(xs.isEmpty):=by
 cases r<;>simp
def ZJ:(Vw:Nat)<2^63:=by rw[uF];decide
def Act:AgS X (λx H Q=>∃k,Agj X.K x H k/\Q k H):=by
 rw[2,x,v,Q,I,rx,h];erw[h,k,e,q];let hl:=ZJ;let hs:Vw=16777216:=uF;cases x with
 |non=>
  rw[rx,0];let O:k=false:=e;subst O;exact truthy_none [H:I:q]
 |bl b=>
  rw[rx,0];let O:k=b:=e;subst O;exact vA [H:I:q]
 |int i=>
  erw[rx,t,rfl];let O:k=(i !=0):=e;subst O;exact PySem.P.truthy_int [H:I:q]
 |str y=>
  erw[rx,t,rfl];obtain⟨hy,O⟩:↑y<=Vw/\k=((↑y:Int) !=0):=e;subst O;exact PySem.P.truthy_str () [H:I.tok _:q]
 |byt y=>
  erw[rx,t,rfl];obtain⟨hy,O⟩:y.size<=Vw/\k=((y.size:Int) !=0):=e;subst O;exact PySem.W.truthy_bytes () [H:I.tok _:q]
 |ref p=>
  rw[rx,0];let O:(∃xs,SqL X.K H p xs/\k= !(xs.isEmpty))\/(∃xs,SqT X.K H p xs/\k= !(xs.isEmpty))\/∃kvs,H p=u_ (.dK kvs)/\k= !(kvs.isEmpty):=e;rcases O with⟨xs,hx,O⟩|⟨xs,hx,O⟩|⟨kvs,hx,O⟩
  .subst O;erw[I.list hx,its,r,pl,hz];let U:=↑r;exact wpAny_truthy_list pl.isList (by simp![uz];omega) ⟨H,I.tok _,by rwa[Km r]⟩
  .subst O;erw[I.tuple hx,its,r,pl,hz];let U:=↑r;exact truthy_tuple pl (by simp![uz];omega) ⟨H,I.tok _,by rwa[Km r]⟩
  .subst O;obtain⟨hz,hS,vs,r,m⟩:↑kvs<=Vw/\(p==VY)=Vt/\∃vs,KV kvs vs/\s.heap.DictOf (Qc X.prog X.w) p vs:=I.hok p _ hx;let U:↑kvs=↑vs:=Paired.length r;exact wpAny_truthy_dict hS m () ⟨H,I.tok _,by rwa[DL r]⟩
 |_=>exact(show False from e).elim
def Co (ha:PE X a ta)(U:∀O,isTrue a X.env O=(do let v<-O;tI a.pos;GS [v] (truthy v))):
  PT X a (λσ H Q=>ta σ H λx H'=>∃k,Agj X.K x H' k/\Q k H'):=by
 rw[2,Q,I,h];exact Pa (thn (ha oq s σ H _ I h) λv s1 ⟨x,H1,I1,r1,q1⟩=>Act oq s1 σ H1 x v Q I1 r1 q1) (U _)
def Ql:OpR X (Gf .Add) (λx y H Q=>∃i j,x= .str i/\y= .str j/\↑i+↑j<=Vw/\Q (.str (i++j)) H):=by
 rw[2,x,y,v,u,Q,I,O,U,h];erw[h,i,j,rfl,rfl,hz,q];erw[O,t,rfl];erw[U,t',rfl,<-uQ (n:=1) I.tk (add_str (λt' tk htk=>(.str (i++j),H,I.tok _,⟨0⟩,q)) hz)]
def jL {x:V}(r:im [x] us):∃u,us= [u]/\ii x u:=by
 cases r with
 |cons O U=>rw[U,0];exact[0:O]
def Bg {x:V}(r:im [x,y] us):∃u O,us= [u,O]/\ii x u/\ii y O:=by
 cases r with
 |cons U r2=>
  cases r2 with
  |cons r3 r4=>rw[r4,0];exact(_,0,U,r3)
def Db:yT X (.builtin "abs") (λxs H Q=>∃i,xs= [.int i]/\Q (.int (if i<0 then-(i) else i)) H):=by
 rw[2,xs,us,Q,I,r,h];erw[h,i,rfl,q];erw[jL r,u,rfl,t,rfl,<-uQ (n:=1) I.tk (call_abs_int λu tk htk=>(.int (if i<0 then-(i) else i),H,I.tok _,⟨0⟩,q))]
def LW (U:X.calm=v_):yT X (.builtin "max") (λxs H Q=>∃i j,xs= [.int i,.int j]/\Q (.int (if GT.gt j i then j else i)) H):=by
 rw[2,xs,us,Q,I,r,h];erw[h,i,j,rfl,q];erw[Bg r,u,w',rfl,[t,rfl],[t',rfl]];refine uQ (n:=1) I.tk (max_two_ints (I.ok.hd U) λh' tk k htk=>(_,H,I.kept k,?_,q));by_cases O:GT.gt j i
 .rw[A6 O,A6 O];exact⟨0⟩
 .rw[A4 O,A4 O];exact⟨0⟩
def LV (U:X.calm=v_):yT X (.builtin "min") (λxs H Q=>∃i j,xs= [.int i,.int j]/\Q (.int (if j<i then j else i)) H):=by
 rw[2,xs,us,Q,I,r,h];erw[h,i,j,rfl,q];erw[Bg r,u,w',rfl,[t,rfl],[t',rfl]];refine uQ (n:=1) I.tk (min_two_ints (I.ok.hd U) λh' tk k htk=>(_,H,I.kept k,?_,q));by_cases O:j<i
 .rw[A6 O,A6 O];exact⟨0⟩
 .rw[A4 O,A4 O];exact⟨0⟩
def L3:yT X (.type "int") (λxs H Q=>(∃i,xs= [.int i]/\Q (.int i) H)\/∃k,xs= [.bl k]/\Q (.int (if k then 1 else 0)) H):=by
 rw[2,xs,us,Q,I,r,h];rcases h with⟨i,rfl,q⟩|⟨k,rfl,q⟩
 .erw[jL r,u,rfl,t,rfl,<-call_int_int (.int i,H,I,⟨0⟩,q)]
 .erw[jL r,u,rfl,O];rw[O,0];exact call_int_bool (.int (if k then 1 else 0),H,I.tok _,⟨0⟩,q)
def Yo:yT X (.type "str") (λxs H Q=>∃i,xs= [.int i]/\i.natAbs.log2<1920/\Q (.str (VH i)) H):=by
 rw[2,xs,us,Q,I,r,h];erw[h,i,rfl,hz,q];erw[jL r,u,rfl,t,rfl,<-PySem.P.str_of_int hz (.str _,H,I.tok _,⟨0⟩,q)]
def Oe:yT X (.builtin "ord") (λxs H Q=>∃x,xs= [!x]/\↑x=1/\Q (.int (x.cps.getD 0 0:Nat)) H):=by
 rw[2,xs,us,Q,I,r,h];erw[h,x,rfl,hz,q];erw[jL r,u,rfl,t,rfl,<-ord_of_one hz (.int _,H,I.tok _,⟨0⟩,q)]
abbrev AgU (K:o0)(x:V)(H:Hp)(n:Nat):Prop:=
 match x with
 | .str y=>↑y<=Vw/\n=↑y| .byt y=>y.size<=Vw/\n=y.size| .ref p=>(∃xs,SqL K H p xs/\n=↑xs)\/∃xs,SqT K H p xs/\n=↑xs|_=>False
def qaE:yT X (.builtin "len") (λxs H Q=>∃x n,xs= [x]/\AgU X.K x H n/\Q (.int n) H):=by
 rw[2,xs,us,Q,I,r,h];erw[h,x,n,rfl,e,q];erw[jL r,u,rfl,rx];let hl:=ZJ;let hs:Vw=16777216:=uF;cases x with
 |str y=>
  erw[rx,t,rfl];obtain⟨hy,U⟩:↑y<=Vw/\n=↑y:=e;subst U;exact len_str () (.int _,H,I.tok _,⟨0⟩,q)
 |byt y=>
  erw[rx,t,rfl];obtain⟨hy,U⟩:y.size<=Vw/\n=y.size:=e;subst U;exact PySem.W.len_bytes () (.int _,H,I.tok _,⟨0⟩,q)
 |ref p=>
  rw[rx,0];let U:(∃xs,SqL X.K H p xs/\n=↑xs)\/∃xs,SqT X.K H p xs/\n=↑xs:=e;rcases U with⟨xs,hx,U⟩|⟨xs,hx,U⟩
  .subst U;erw[I.list hx,its,r',pl,hz];let O:=↑r';exact rT pl.isList (by simp![uz];omega) (.int ↑xs,H,I.tok _,⟨_,by simp![uz];rw[O]⟩,q)
  .subst U;erw[I.tuple hx,its,r',pl,hz];let O:=↑r';exact len_tuple pl (by simp![uz];omega) (.int ↑xs,H,I.tok _,⟨_,by simp![uz];rw[O]⟩,q)
 |_=>exact(show False from e).elim
end
structure Aca (h:o8)(x dx C:o3)(mA:Str->om o6):Prop where
 obj:h.get? x=u_ (PySem.W.instObj C dx)
 ns:h.Ns1 dx mA
 ne:dx≠x
variable {dx:o3}
set_option tactic.hygienic true in
def IJ {mA:Str->om o6}(n:h.Ns1 dx mA):∃od,h.get? dx=u_ od/\∀name,PySem.W.lookIn name od=u_ (mA name):=by
 erw[n,o,es,ep,U,hd,hk,_,hm];rw[_,o,U,λname=>?_];let e:=hm name;unfold nsFind findBy at e;rw[<-Array.find?_toList] at e;unfold PySem.W.lookIn;rw[hd];dsimp only;split
 .rename_i y q
  rw[q] at e;exact Aa u_ e
 .rename_i q
  rw[q] at e;let a:es.toList.any (·.refKey)=false:=by
   rw[rq];intro y hy;erw[hk y (Array.mem_toList_iff.mp hy),z,t,O];simp[pJ,O]
  let a':¬es.toList.any (·.refKey)=true:=by rw[a];exact uh
  rw[A4 a'];exact Aa u_ e
variable {C:o3}
def Aca.look {x:o3}{mA:Str->om o6}(I:Aca h x dx C mA):∃od,PySem.W.InstAt h x (PySem.W.instObj C dx) C (u_ od)/\∀name,PySem.W.lookIn name od=u_ (mA name):=
 let⟨od,ho,hl⟩:=IJ I.ns
 [od:(I.obj,1,1,ho):hl]
section
variable {prog:o9}{w:og}{A:oh}{E:#[14]}{s:o7}{K:o0}{x dx C f:o3}{mA:Str->om o6}{name:Str}{v:o6}
def AbH {O:Bool}{Q:#[14]}(X:K.In s.heap)(I:Aca s.heap x dx C mA)(hg:PySem.W.plainGet K C name=v_)(hh:PySem.W.hasDictIn K C=v_)
  (ha:PySem.W.findIn K (-C) name=u_ U_) (hv:mA name=u_ v) (U:PySem.W.handedIn v=v_) (h:Q v {s with toks:=s.toks+1}):
  Vu #[w,w] A (Fe (-x) name O) Q E s:=by
 erw[I.look,od,J,hl,<-PySem.W.get_value X J (PySem.W.plainGet_of hg).1 (PySem.W.findObj_own hh ha rfl (by rw[hl,hv])) U h]
def NS {pl:Sem Bool}{Q:o6×oj o6->o7->Prop}(X:K.In s.heap)(I:Aca s.heap x dx C mA)(O:PySem.W.plainGet K C name=v_)
  (U:PySem.W.findIn K (-C) name=u_ (u_ (-f))) (ht:PySem.W.isFn K (-f)=v_) (hv:mA name=U_) (h:Q (-f,[-x]) s):
  Vu #[w,w] A (T8 (-x) name pl) Q E s:=by
 erw[I.look,od,J,hl,<-PySem.W.method_fn X J (PySem.W.plainGet_of O).1 (PySem.W.plainGet_of O).2 U (beq_iff_eq.mp ht) (by show(PySem.W.lookIn name od).map (·.isSome)=u_ Vt;rw[hl,hv];rfl) h]
def Aar {ns:oj Str}{Q:Unit->o7->Prop}(X:K.In s.heap)(I:Aca s.heap x dx C mA)
  (hs:PySem.W.findIn K (-C) "__setattr__"=u_ (u_ (.builtin "object.__setattr__"))) (hp:PySem.W.plainOver K C=v_) (ht:PySem.W.takerIn K C name=u_ U_) (hh:PySem.W.hasDictIn K C=v_)
  (hw:PySem.Within mA ns) (hsz:↑ns<=Vw)
  (h:∀h',Aca h' x dx C (λy=>if y=name then u_ v else mA y)->Hz dx s.heap h'->Q Gk {s with heap:=h',toks:=s.toks+2}):
  Vu #[w,w] A (setAttr (-x) name v) Q E s:=by
 erw[I.look,od,J,hl];refine PySem.W.set_plain X J hs (PySem.W.osa_open (s:={s with toks:=s.toks+1}) (r:=U_) X J hp ht λb=>?_)
 erw[PySem.W.any_some hh,cd,hc,aa];let hx:s.heap.get? x=u_ (-C,u_ dx,.plain,#[]):=I.obj;refine A8 (uu (A8 (A8 (RG hx (A8 (PySem.W.Looks.here (s:={s with toks:=s.toks+1}) (PySem.W.looks_clsIn X hc) ?_))))))
 rw[aa];refine uu (a:=u_ dx) (A8 (uu (A8 ?_)));refine wpAny_nsSet1 (s:={s with toks:=s.toks+1}) I.ns λh' O U=>?_
 erw[O.count (PySem.Within.cons name v hw),oD,ae,af,ac,hdD,ad];refine A8 (wpAny_lookBehind ac (by rw[hdD];exact pastItsLine_dict (uP ad (by rw[uw];omega))) ?_)
 exact uu (h _ [(U.2 _ (Uv I.ne)).trans I.obj:O:I.ne] U)
def NE {R:GP->o7->Prop}{vs:oj o6}{O:oj (Str×o6)}(X:K.In s.heap)(hm:PySem.W.makesIn K C=v_)
  (hi:PySem.W.findIn K (-C) "__init__"=u_ (u_ (-f))) (U:PySem.W.typeIn K (-f)=u_ (.type "function"))
  (h:G9 #[w,w] (A.under (.builtin "type.__call__" [.ref C::vs:O])) (.call (-f) [.ref (#[0,s]+1)::vs:O]) (PySem.W.InitBack (#[0,s]+1) R)
   {s with heap:=(s.heap.push PySem.W.emptyDict).push (PySem.W.instObj C #[0,s])}):
  G9 #[w,w] A (.call (-C) [vs:O]) R s:=by
 erw[s,hh,g,d,t,os,<-PySem.W.make_core (PySem.W.makes_of X hm) (PySem.W.looks_findIn X hi) (λself=>PySem.W.bind_fn X self U) (.inl rfl) h]
end
abbrev iH (f:Str)(v:V):oj (Str×V)->oj (Str×V)
 | []=> [(f,v)]|(g,x)::r=>if g=f then(g,v)::r else(g,x)::iH f v r
def qM (f g:Str)(v:V):∀fs:oj (Str×V),(iH f v fs).lookup g=if g=f then u_ v else fs.lookup g
 | []=>by
  show G7 g [(f,v)]=_;by_cases h:g=f
  .let O:(g==f)=true:=beq_iff_eq.mpr h;simp![G7,O,A6 h]
  .let O:(g==f)=false:=beq_eq_false_iff_ne.mpr h;simp![G7,O,A4 h]
 |(k,x)::r=>by
  let ih:=qM f g v r;rw[show iH f v ((k,x)::r)=(if k=f then(k,v)::r else(k,x)::iH f v r) from rfl]
  by_cases U:k=f
  .rw[A6 U];by_cases h:g=k
   .let O:(g==k)=true:=beq_iff_eq.mpr h;simp![G7,O,A6 (h.trans U)]
   .let O:(g==k)=false:=beq_eq_false_iff_ne.mpr h;simp![G7,O,A4 (λe:g=f=>h (e.trans U.symm))]
  .rw[A4 U];by_cases h:g=k
   .let O:(g==k)=true:=beq_iff_eq.mpr h;simp![G7,O,A4 (λe:g=f=>U (h.symm.trans e))]
   .let O:(g==k)=false:=beq_eq_false_iff_ne.mpr h;simp![G7,O];exact ih
def Wq (f:Str)(v:V):∀fs:oj (Str×V),f>(iH f v fs).map (·.1)/\∀g,g>fs.map (·.1)->g>(iH f v fs).map (·.1)
 | []=>⟨by simp[iH],λg h=>by simp at h⟩|(k,x)::r=>by
  erw[Wq f v r,U,i2];rw[show iH f v ((k,x)::r)=(if k=f then(k,v)::r else(k,x)::iH f v r) from rfl]
  by_cases O:k=f
  .rw[A6 O];subst O;exact⟨by simp,λg h=>by simpa using h⟩
  .rw[A4 O];rw[_,?_,λg h=>?_]
   .rw[ur];exact ui _ U
   .rw[ur] at h⊢;rcases Ab.mp h with e|e
    .exact Ab.mpr (.inl e)
    .exact ui _ (i2 g e)
def WM (f:Str)(v:V):∀fs:oj (Str×V),↑(iH f v fs)<=↑fs+1
 | []=>by simp[iH]|(k,x)::r=>by
  let U:=WM f v r;rw[show iH f v ((k,x)::r)=(if k=f then(k,v)::r else(k,x)::iH f v r) from rfl]
  by_cases O:k=f
  .rw[A6 O,uw,uw];omega
  .rw[A4 O,uw,uw];omega
variable {v:V}
def nY.some_of {o:om o6}(r:nY (u_ v) o):∃u,o=u_ u/\ii v u:=by
 cases o with
 |none=>exact(show False from r).elim|some u=>exact[u:1:r]
def nY.none_of {o:om o6}(r:nY U_ o):o=none:=by
 cases o with
 |none=>rfl|some u=>exact(show False from r).elim
def Li (r:ii v u):PySem.W.handedIn u=true:=by
 cases v with
 |non=>rw[show u=Gz from r,0];rfl|bl b=>rw[show u=T6 b from r,0];rfl|int i=>obtain⟨t,e⟩:=(show∃t,u=hZ i t from r);rw[e,0];rfl|str x=>obtain⟨t,e⟩:=(show∃t,u=G6 x t from r);rw[e,0];rfl|byt b=>obtain⟨t,e⟩:=(show∃t,u=R8 b t from r);rw[e,0];rfl|flt b=>obtain⟨t,e⟩:=(show∃t,u=FW b t from r);rw[e,0];rfl|ref a=>rw[show u=VB a from r,0];rfl|ty n=>rw[show u=Gj n from r,0];rfl
section
variable {P:o9}{w:og}{H H':Hp}{h h':o8}{a C dx:o3}{fs fs':oj (Str×V)}
def qab (hok:HOk P w H h)(e:H a=u_ (.ins C dx fs)):∃mA,Aca h a dx C mA/\(∀f,nY (fs.lookup f) (mA f))/\PySem.Within mA (fs.map (·.1))/\↑fs<=1000/\H dx=u_ (.own a):=by
 obtain⟨d,z,ne,ob,mA,n,r,q⟩:=(show QT P w H h a (.ins C dx fs) from hok a _ e)
 exact(mA,[ob:n:ne],r,q,z,d)
end
structure Cls (K:o0)(C:o3):Prop where
 pg:PySem.W.plainGet K C Hq=v_
 hd:PySem.W.hasDictIn K C=v_
 po:PySem.W.plainOver K C=v_
 sa:PySem.W.findIn K (-C) "__setattr__"=u_ (u_ (.builtin "object.__setattr__"))
def Cls.get (c:Cls K C)(f:Str):PySem.W.plainGet K C f=true:=c.pg
abbrev QQ (K:o0)(C:o3)(f:Str):Prop:=PySem.W.findIn K (-C) f=u_ U_
def QQ.taker {f:Str}(n:QQ K C f):PySem.W.takerIn K C f=u_ none:=by
 unfold PySem.W.takerIn;rw[show PySem.W.findIn K (-C) f=u_ U_ from n]
 rfl
structure AeJ (K:o0)(C:o3)(m:Str)(f:o3):Prop where
 at_:PySem.W.findIn K (-C) m=u_ (u_ (-f))
 fn:PySem.W.isFn K (-f)=v_
 kp:PySem.W.keepIn K (-f)=v_
section
variable {X:Cx}{oq:#[16]}{σ:St}{H:Hp}{s:o7}{a C dx:o3}{fs:oj (Str×V)}{f:Str}{v:V}{A:oh}{E:#[14]}
def kt {b:Bool}{Q:#[14]}(I:#[I])(e:H a=u_ (.ins C dx fs))(c:Cls X.K C)(n:QQ X.K C f)(l:fs.lookup f=u_ v)
  (h:∀u s',Inv X oq σ H s'->ii v u->Q u s'):Vu #[X,X] A (Fe (-a) f b) Q E s:=by
 erw[qab I.hok e,mA,O,r,_,_,_];obtain⟨u,U,ru⟩:=nY.some_of (v:=v) (o:=mA f) (by rw[<-l];exact r f)
 exact AbH I.kIn O (c.get f) c.hd n U (Li ru) (h u _ (I.tok _) ru)
def kH {m:Str}{g:o3}{pl:Sem Bool}{Q:o6×oj o6->o7->Prop}(I:#[I])(e:H a=u_ (.ins C dx fs))(c:Cls X.K C)(k:AeJ X.K C m g)(l:fs.lookup m=U_)
  (h:Q (-g,[-a]) s):Vu #[X,X] A (T8 (-a) m pl) Q E s:=by
 erw[qab I.hok e,mA,O,r,_,_,_];let hn:mA m=none:=nY.none_of (by rw[<-l];exact r m)
 exact NS I.kIn O (c.get m) k.at_ k.fn hn h
def kP {y:V}{u:o6}{Q:Unit->o7->Prop}(I:#[I])(e:H a=u_ (.ins C dx fs))(c:Cls X.K C)(n:QQ X.K C f)(hl:↑fs<1000)(ry:ii y u)
  (h:∀s',Inv X oq σ (upd H a (.ins C dx (iH f y fs))) s'->Q Gk s'):Vu #[X,X] A (setAttr (-a) f u) Q E s:=by
 erw[qab I.hok e,mA,O,r,wi,_,ho];let hz:(fs.map (·.1)).length<=sizeLine:=by rw[uc,uF];omega
 refine Aar I.kIn O c.sa c.po n.taker c.hd wi hz λh' U sb=>h _ ?_;let hd:∃o,h'.get? dx=u_ o:=let⟨o,_,_,e',_⟩:=U.ns;[o:e'];refine I.write (x:=a) (e:=dx) (by rw[e];exact Go) (.inr ho) (λb q hb z=>(sb.2 b hb).trans z) hd ?_
 refine(by rwa[qk O.ne],?_,O.ne,U.obj,_,U.ns,λg=>?_,λg hg=>?_)
 .have:=WM f y fs;omega
 .show nY ((iH f y fs).lookup g) (if g=f then u_ u else mA g)
  rw[qM];by_cases q:g=f
  .rwa[A6 q,A6 q]
  .rw[A4 q,A4 q];exact r g
 .by_cases q:g=f
  .rw[q];exact(Wq f y fs).1
  .refine(Wq f y fs).2 g (wi g λz=>hg ?_);show(if g=f then u_ u else mA g)=U_
   rw[A4 q];exact z
def Inv.made (I:#[I]):Inv X oq σ (upd (upd H #[0,s] (.own (#[0,s]+1))) (#[0,s]+1) (.ins C #[0,s] []))
  {s with heap:=(s.heap.push PySem.W.emptyDict).push (PySem.W.instObj C #[0,s])}:=by
 let O:(s.heap.push PySem.W.emptyDict).get? #[0,s]=u_ PySem.W.emptyDict:=uC s.heap rfl;let e2:((s.heap.push PySem.W.emptyDict).push (PySem.W.instObj C #[0,s])).get? (#[0,s]+1)=u_ (PySem.W.instObj C #[0,s]):=by
  have:=uC (s.heap.push PySem.W.emptyDict) (o:=PySem.W.instObj C #[0,s]) rfl
  rwa[vo] at this
 let U:(s.heap.push PySem.W.emptyDict).Ns #[0,s] (λ_=>U_):=(PySem.W.emptyDict,#[],_,O,1,(λe he=>A9 he (by simp)),λ_=>rfl)
 let I1:=I.laid (a:=#[0,s]) (o:= .own (#[0,s]+1)) (h':=s.heap.push PySem.W.emptyDict) (t':=s.toks) (λb u q=>ug _ q) (Vv _) [_:O];refine I1.laid (a:=#[0,s]+1) (o:= .ins C #[0,s] []) (t':=s.toks) (λb u q=>ug _ q) (tS (vo _ _)) ?_;let ne:#[0,s]≠#[0,s]+1:=uM (Fs _);refine(by rw[qk ne,qg],uN _,ne,e2,λ_=>U_,(oF U).at λo q=>ug _ q,λ_=>Go,λy hy=>A9 rfl hy)
def AbY {prog:o9}{w:og}{env:Env}{e:Expr}{f:Str}{pos:Pos}{s:o7}{Q:#[14]}(O:GM e f env (eval e env)=eval e env)
  (h:Vu #[w,w] A (eval e env) (λo U=>Vu #[w,w] A (Fe o f v_) Q E U) E s):Vu #[w,w] A (eval (.Attribute e f pos) env) Q E s:=
 Attribute_any_ h (by rw[arm_eval_Attribute,O])
end
inductive AfP (K:PySem.W.Frag)(f:Str)(Q:VK)(x:V)(H1:Hp):Prop
 |mk (a:_)(C:_)(dx:_)(fs:_)(v:_)(_:x=-a)(_:H1 a=u_ (.ins C dx fs))(_:Cls K C)(_:QQ K C f)(_:fs.lookup f=u_ v)(_:Q v H1)
abbrev AeY (K:o0)(ta:TE)(f:Str):TE:=λσ H Q=>ta σ H λx H1=>AfP K f Q x H1
inductive AfR (K:PySem.W.Frag)(f:Str)(D:mV)(σ:St)(y:V)(x:V)(H2:Hp):Prop
 |mk (a:_)(C:_)(dx:_)(fs:_)(_:x=-a)(_:H2 a=u_ (.ins C dx fs))(_:Cls K C)(_:QQ K C f)(_:↑fs<1000)(_:D.nx σ (upd H2 a (.ins C dx (iH f y fs))))
abbrev Agz (K:o0)(ta tv:TE)(f:Str):TS:=λD σ H=>tv σ H λy H1=>ta σ H1 λx H2=>AfR K f D σ y x H2
abbrev Agn (X:Cx)(op:HZ)(rd:V->V->Hp->VK->Prop):Prop:=
 ∀(oq:#[16]) (s:o7) (σ:St) (H:Hp) (x y:V) (u v:o6) (Q:VK),#[I]->ii x u->ii y v->rd x y H Q->Vu #[X,X] X.A (r6 op u v) (EP X oq σ Q) X.xe s
inductive Ol (K:PySem.W.Frag)(tv:TE)(rd:V->V->Hp->VK->Prop)(f:Str)(D:mV)(σ:St)(x:V)(H1:Hp):Prop
 |mk (a:_)(C:_)(dx:_)(fs:_)(v:_)(_:x=-a)(_:H1 a=u_ (.ins C dx fs))(_:Cls K C)(_:QQ K C f)(_:fs.lookup f=u_ v)(_:tv σ H1 λy H2=>rd v y H2 λz H3=>∃dx' fs',H3 a=u_ (.ins C dx' fs')/\↑fs'<1000/\D.nx σ (upd H3 a (.ins C dx' (iH f z fs'))))
abbrev Aau (K:o0)(ta tv:TE)(rd:V->V->Hp->VK->Prop)(f:Str):TS:=λD σ H=>ta σ H λx H1=>Ol K tv rd f D σ x H1
section
variable {X:Cx}{o e value:Expr}{f:Str}{pos pos' tpos:Pos}{ta tv:TE}
def qQ (O:PE X e ta)(U:GM e f X.env (eval e X.env)=eval e X.env):PE X (.Attribute e f pos) (AeY X.K ta f):=by
 rw[2,Q,I,h];refine AbY U (thn (O oq s σ H _ I h) λu s1 zq=>?_);erw[zq,x,H1,I1,rx,a,C,dx,fs,v,ex,ea,c,n,l,q];subst ex;obtain rfl:u=VB a:=rx;exact kt I1 ea c n l λu' s2 I2 ru=>(v,H1,I2,ru,q)
def Qj (ha:PE X o ta)(O:PE X value tv)(U:Ht value (u_ (.Attribute o f pos')) pos.line X.env=pure Vt):PS X (.Assign [.Attribute o f pos'] value pos) (Agz X.K ta tv f):=by
 rw[2,D,I,h];refine plainObj_wpAny_Assign_Attribute (thn (O oq s σ H _ I h) λu s1 ⟨y,H1,I1,ry,q⟩=>thn (ha oq s1 σ H1 _ I1 q) λov s2 zq=>?_) U;erw[zq,x,H2,I2,rx,a,C,dx,fs,ex,ea,c,n,l,q2];subst ex;obtain rfl:ov=VB a:=rx;exact kP I2 ea c n l ry λs3 I3=>(σ,_,I3,q2)
def J7 {op:HZ}{rd:V->V->Hp->VK->Prop}(ha:PE X o ta)(hv:PE X value tv)(O:Agn X op rd):PS X (.AugAssign (.Attribute o f tpos) op value pos) (Aau X.K ta tv rd f):=by
 rw[2,D,I,h];refine wpAny_AugAssign_AttributeAny (thn (ha oq s σ H _ I h) λov s1 zq=>?_);erw[zq,x,H1,I1,rx,a,C,dx,fs,v,ex,ea,c,n,l,q];subst ex;obtain rfl:ov=VB a:=rx;refine kt I1 ea c n l λu s2 I2 ru=>thn (hv oq s2 σ H1 _ I2 q) λw3 s3 ⟨y,H2,I3,ry,q3⟩=>thn (O oq s3 σ H2 v y u w3 _ I3 ru ry q3) λw4 s4 zq=>?_;erw[zq,z,H3,I4,rz,dx',fs',U,l',q4,<-kP I4 U c n l' rz λs5 I5=>(σ,_,I5,q4)]
inductive AgI (x:V)(y:V)(H:Hp)(Q:VK):Prop
 |mk (i:_)(j:_)(_:x= .int i)(_:y= .int j)(_:Q (.int (i+j)) H)
def Ay:Agn X .Add AgI:=by
 rintro oq s σ H x y u v Q I O U ⟨i,j,rfl,rfl,q⟩;obtain⟨t,rfl⟩:=(show∃t,u=hZ i t from O)
 obtain⟨t',rfl⟩:=(show∃t',v=hZ j t' from U)
 exact O8 (.int (i+j),H,I.tok _,⟨0⟩,q)
end
section
variable {X:Cx}{oq:#[16]}{σ:St}{H:Hp}{s:o7}{A:oh}{E:#[14]}{Q:#[14]}{c:o6}{b:Bool}
inductive B5 (K:PySem.W.Frag)(H:Hp):V->o6->Prop where
 |non:B5 K H .non (.type "NoneType")
 |bl (x:Bool):B5 K H (.bl x) (.type "bool")
 |int (i:Int):B5 K H (.int i) (.type "int")
 |str (x:Str):B5 K H (!x) (.type "str")
 |flt (x:UInt64):B5 K H (.flt x) (.type "float")
 |lst {a:Addr}{xs:List V}(e:H a=u_ (.lst xs)):B5 K H (-a) (.type "list")
 |frz {a:Addr}{o:Obj}{xs:List V}(e:H a=u_ (.frz o (.lst xs))):B5 K H (-a) (.type "list")
 |tup {a:Addr}{xs:List V}(e:H a=u_ (¬xs)):B5 K H (-a) (.type "tuple")
 |dK {a:Addr}{kvs:List (Key×V)}(e:H a=u_ (.dK kvs)):B5 K H (-a) (.type "dict")
 |dT {a:Addr}{kvs:List (List Key×V)}(e:H a=u_ (.dT kvs)):B5 K H (-a) (.type "dict")
 |ins {a C dx:Addr}{fs:List (Str×V)}(e:H a=u_ (.ins C dx fs))(cl:Cls K C)(ha:PySem.W.findIn K (-C) "__class__"=u_ (u_ (.builtin "object.__class__")))
   (hn:PySem.W.specialIn K (.builtin "object.__class__") "__get__"=u_ (u_ (.builtin "getset_descriptor.__get__"))) (htk:PySem.W.takesIn K (.builtin "object.__class__")=u_ v_)
   (hm:PySem.W.mroIn K C (.type "object")=u_ v_):B5 K H (-a) (-C)
def Av {x:V}{t:o6}(I:#[I])(U:ii x u)(ty:B5 X.K H x t)(e:PySem.W.kitOne X.K t c=u_ b)(h:∀tk,Q (.bool b) {s with toks:=tk}):
  Vu #[X,X] A (call (.builtin "isinstance") [u,c]) Q E s:=by
 cases ty with
 |non=>rw[show u=Gz from U,0];exact vy PySem.W.kitx_none I.kIn Go e (λz=>nomatch z) h|bl y=>rw[show u=T6 y from U,0];exact vy PySem.W.kitx_bool I.kIn Go e (λz=>nomatch z) h|int i=>obtain⟨t,q⟩:=(show∃t,u=hZ i t from U);rw[q,0];exact vy PySem.W.kitx_int I.kIn Go e (λz=>nomatch z) h|str y=>obtain⟨t,q⟩:=(show∃t,u=G6 y t from U);rw[q,0];exact vy PySem.W.kitx_str I.kIn Go e (λz=>nomatch z) h|flt y=>obtain⟨t,q⟩:=(show∃t,u=FW y t from U);rw[q,0];exact vy PySem.W.kitx_float I.kIn Go e (λz=>nomatch z) h| @lst a xs ea=>
  rw[show u=VB a from U,0]
  obtain⟨_,_,n,_,h1⟩:=(show QT X.prog X.w H s.heap a (.lst xs) from I.hok a _ ea)
  exact vy PySem.W.kitx_list I.kIn [_:h1:1] e (λz=>nomatch z) h
 | @frz a ob xs ea=>
  rw[show u=VB a from U,0]
  obtain⟨_,_,_,n,_,h1⟩:=(show QT X.prog X.w H s.heap a (.frz ob (.lst xs)) from I.hok a _ ea)
  exact vy PySem.W.kitx_list I.kIn [_:h1:1] e (λz=>nomatch z) h
 | @tup a xs ea=>
  rw[show u=VB a from U,0]
  obtain⟨_,_,_,p⟩:=(show QT X.prog X.w H s.heap a (¬xs) from I.hok a _ ea)
  erw[p,o,h1,h2,_,<-vy PySem.W.kitx_tuple I.kIn [o:h1:h2] e (λz=>nomatch z) h]
 | @dK a kvs ea=>
  rw[show u=VB a from U,0]
  obtain⟨_,_,vs,_,p⟩:=(show QT X.prog X.w H s.heap a (.dK kvs) from I.hok a _ ea)
  erw[p,o,es,ep,h1,h2,_,<-vy PySem.W.kitx_dict I.kIn [o:h1:h2.1] e (λz=>nomatch z) h]
 | @dT a kvs ea=>
  rw[show u=VB a from U,0]
  obtain⟨_,_,xs,_,o,es,ep,h1,h2,_⟩:=(show QT X.prog X.w H s.heap a (.dT kvs) from I.hok a _ ea)
  exact vy PySem.W.kitx_dict I.kIn [o:h1:h2.1] e (λz=>nomatch z) h
 | @ins a C dx fs ea cl ha hn htk hm=>
  rw[show u=VB a from U,0]
  erw[qab I.hok ea,mA,O,_];erw[O.look,od,J,_,<-vy (PySem.W.kitx_own (cl.get _) cl.hd ha hn htk hm) I.kIn J e (λz=>nomatch z) h]
end
structure mP (k:Nat)(A:oh):Prop where
 hd:A.handled=U_
 dp:A.depth+3*k+5<recursionLimit
 un:A.units+16*k+200<VI
variable {j:Nat}
def mP.mono {k:Nat}(r:mP k A)(h:j<=k):mP j A:=⟨r.hd,by have:=r.dp;omega,by have:=r.un;omega⟩
def mP.deeper {k:Nat}(r:mP (k+1) A)(env:Env):mP k (A.deeper env):=
 ⟨r.hd,by have:=r.dp;show A.depth+1+3*k+5<_;omega,by have:=r.un;show A.units+3+16*k+200<_;omega⟩
def DF {O:oj (Str×o6)}:(A.under (.builtin "type.__call__" [.ref C::us:O])).depth=A.depth+1:=by
 first|rfl|simp[Fd,Code.weight,Code.isCreation,Code.isGuard,Code.isCaller,PX,TQ,guardIds]
def DE {O:oj (Str×o6)}:(A.under (.builtin "type.__call__" [.ref C::us:O])).units=A.units+1:=by
 first|rfl|simp[Fd,Code.cUnits,PX,TQ]
def mP.make {k:Nat}(r:mP (k+1) A)(C:o3)(us:oj o6)(O:oj (Str×o6)):mP k (A.under (.builtin "type.__call__" [.ref C::us:O])):=
 ⟨r.hd,by have:=r.dp;rw[DF];omega,by have:=r.un;rw[DE];omega⟩
def mP.depth {k:Nat}(r:mP k A):A.depth<recursionLimit:=by have:=r.dp;omega
def mP.units {k:Nat}(r:mP k A):A.units+64<cLine:=by have:=r.un;omega
abbrev Ack:TA:=λ_ H Q=>Q [] H
abbrev Mr (ta:TE)(tr:TA):TA:=λσ H Q=>ta σ H λx H1=>tr σ H1 λxs H2=>Q (x::xs) H2
section
variable {X:Cx}{e:Expr}{es:oj Expr}{te:TE}{t:TA}{pos:Pos}
def qd:PA X [] Ack:=λ_ _ _ _ H Q I h=>Ub ([],H,I,.nil,h)
def qb (ha:PE X e te)(O:PA X es t)(U:#[22]:=by rfl):PA X (e::es) (Mr te t):=by
 intro pos oq s σ H Q I h;rw[U];show Vu _ _ (HX ((Vt,eval e X.env)::VL pos (VA es X.env))) _ _ s;refine vG (thn (ha oq s σ H _ I h) λu s1 zq=>?_);erw[zq,x,H1,I1,r1,q1,<-thn (O pos oq s1 σ H1 _ I1 q1) λus s2 ⟨xs,H2,I2,r2,q2⟩=>(x::xs,H2,I2,.cons r1 r2,q2)]
abbrev Ago (t:TA):TE:=λσ H Q=>t σ H λxs H1=>↑xs<=Vw/\∀p,H1 p=U_->Q (-p) (upd H1 p (¬xs))
abbrev Ags (t:TA):TE:=λσ H Q=>t σ H λxs H1=>↑xs<=Vw/\∀p,H1 p=U_->Q (-p) (upd H1 p (.lst xs))
def qE {x1}(h:PA X es t):PE X (.Tuple es x1 pos) (Ago t):=by
 rw[2,Q,I,U];refine wpAny_Tuple_spliced (thn (h pos oq s σ H _ I U) λus s1 ⟨xs,H1,O,r,z,q⟩=>⟨by rwa[<-↑r],?_⟩)
 let hf:H1 #[0,s1]=none:=O.hok.fresh (Vv _);rw[_,.ref #[0,s1],upd H1 #[0,s1] (¬xs),O.laid (t':=s1.toks) (λb u e=>ug _ e) (Vv _) ?_,1,q _ hf];exact(z,us,r,(_,uC _ rfl,1,0))
def QN (h:PA X es t):PE X (.List es pos) (Ags t):=by
 rw[2,Q,I,U];refine wpAny_List_spliced (thn (h pos oq s σ H _ I U) λus s1 ⟨xs,H1,O,r,z,q⟩=>⟨by rwa[<-↑r],?_⟩)
 let hf:H1 #[0,s1]=none:=O.hok.fresh (Vv _);rw[_,.ref #[0,s1],upd H1 #[0,s1] (.lst xs),O.laid (t':=s1.toks) (λb u e=>ug _ e) (Vv _) ?_,1,q _ hf];exact(z,us,(0),r,uC _ rfl)
end
nonrec abbrev Sp:=oj V->Hp->VK->XK->Prop
nonrec abbrev CXT:=oj Env->Hp->o7->XK->#[14]
structure Aci (P:o9)(w:og)(K:o0)(mg:Str->om o6)(base:o8)(A:oh)(outer:oj Env)(s:o7)(H:Hp):Prop where
 frames:A.frames=u_ outer
 mod:Mod K mg base
 bs:∀b o,base.get? b=u_ o->s.heap.get? b=u_ o/\H b=U_
 bsz:base.objs.size<=#[0,s]
 funs:s.heap.FunFrames base outer
 frf:∀b>frs outer,H b=U_
 hok:HOk P w H s.heap
 bare:GE s.gens
abbrev CE (outer:oj Env)(P:o9)(w:og)(H:Hp)(s:o7)(Q:VK)(u:o6)(s':o7):Prop:=
 ∃v H',s'.os=s.os/\GE s'.gens/\0<s'.toks/\Un (frs outer) [] H H' s.heap s'.heap/\HOk P w H' s'.heap/\ii v u/\Q v H'
abbrev CR (CX:CXT)(outer:oj Env)(P:o9)(w:og)(H:Hp)(s:o7)(Q:VK)(E:XK)(r:GP)(s':o7):Prop:=
 match r with
 | .ok (.ret u)=>CE outer P w H s Q u s'| .ok _=>False| .error e=>CX outer H s E e s'
structure FnOk (P:o9)(w:og)(K:o0)(mg:Str->om o6)(base:o8)(CX:CXT)(k:Nat)(f:o3)(fd:Vy)(ps:oj Str)(sp:Sp):Prop where
 len:∀vs H Q E,sp vs H Q E->↑vs=↑ps
 run:∀(A:oh) (outer:oj Env) (s:o7) (H:Hp) (args:Args) (us:oj o6) (vs:oj V) (Q:VK) (E:XK),mP k A->Aci P w K mg base A outer s H->Hu s fd args (ps.zip us)->im vs us->sp vs H Q E->(0<s.toks\/∃x r,ps=x::r/\fd.scope.names.lookup x=u_ .local)->
  G9 (VC P w) A (.call (-f) args) (CR CX outer P w H s Q E) s
variable {mg:Str->om o6}
def Aci.make {P:o9}{base:o8}{outer:oj Env}(e:Aci P w K mg base A outer s H)(C:o3)(us:oj o6)(O:oj (Str×o6)):
  Aci P w K mg base (A.under (.builtin "type.__call__" [.ref C::us:O])) outer s H:=(by first|exact e.frames|(simpa [Fd,Code.envs,TQ,pushEnvs] using e.frames),e.mod,e.bs,e.bsz,e.funs,e.frf,e.hok,e.bare)
section
variable {X:Cx}{oq:#[16]}{σ:St}{H:Hp}{s s':o7}
def Inv.env0 (I:#[I]):Aci X.prog X.w X.K X.mg X.base X.A X.stack s H:=
 (I.ok.frames,I.ok.mod,I.bs,uP I.ok.bsz I.sz,I.stack,I.stkFree,I.hok,I.bare)
variable {Q:VK}
def Inv.after (I:#[I])(h:CE X.stack X.prog X.w H s Q u s'):EP X oq σ Q u s':=by
 erw[h,v,H',os,bare,htk,un,hok,r,q];erw[s',U,g,d,t,O];obtain rfl:O=s.os:=os;exact(v,H',I.call (h':=U) (g':=g) (d':=d) (t':=t) (ch:= []) un hok bare (λb z=>A9 z (by simp)),r,q)
end
abbrev Ae2 (sp:Sp)(dvs:oj V)(E:XK)(t:TA):TE:=λσ H Q=>t σ H λvs H1=>sp (vs++dvs) H1 Q E
inductive Aew (C:Addr)(m:Str)(sp:Sp)(dvs:List V)(E:XK)(t:TA)(σ:St)(Q:VK)(x:V)(H1:Hp):Prop
 |mk (a:_)(dx:_)(fs:_)(_:x=-a)(_:H1 a=u_ (.ins C dx fs))(_:fs.lookup m=U_)(_:t σ H1 λvs H2=>sp (x::(vs++dvs)) H2 Q E)
abbrev AcC (C:o3)(m:Str)(sp:Sp)(dvs:oj V)(E:XK)(ta:TE)(t:TA):TE:=λσ H Q=>ta σ H λx H1=>Aew C m sp dvs E t σ Q x H1
abbrev AeX (C:o3)(sp:Sp)(dvs:oj V)(E:XK)(t:TA):TE:=λσ H Q=>t σ H λvs H1=>∀x dx,H1 x=U_->H1 dx=U_->dx≠x->
 sp (.ref x::(vs++dvs)) (upd (upd H1 dx (.own x)) x (.ins C dx [])) (λv H2=>v= .non/\Q (-x) H2) E
abbrev Xh (K:o0)(fd:Vy)(ps:oj Str)(ds:oj o6):Prop:=
 ∀(s:o7) (us:oj o6),K.In s.heap->↑(us++ds)=↑ps->Hu s fd [us:[]] (ps.zip (us++ds))
def Xh.all {fd:Vy}{ps:oj Str}(h:∀us:oj o6,↑us=↑ps->GZ fd [us:[]]=pure (ps.zip us)):Xh K fd ps []:=λs us _ O=>by
 rw[vg] at O⊢;exact .of_eq (h us O)
abbrev zf (CX:CXT)(X:Cx)(E:XK):Prop:=∀(oq:#[16]) (σ:St) (H:Hp) (s:o7) (e:o6) (s':o7),#[I]->CX X.stack H s E e s'->X.xe e s'
section
variable {X:Cx}{CX:CXT}{k:Nat}{f C:o3}{fd:Vy}{ps:oj Str}{sp:Sp}{dvs:oj V}{ds:oj o6}{E:XK}{x m:Str}{p pos apos:Pos}{e o:Expr}{es:oj Expr}{ta:TE}{t:TA}
def Ci {oq:#[16]}{σ:St}{H:Hp}{s:o7}{Q:VK}{us:oj o6}{vs:oj V}(F:FnOk X.prog X.w X.K X.mg X.base CX k f fd ps sp)(hr:mP k X.A)(hb:Xh X.K fd ps ds)(hd:im dvs ds)(hx:zf CX X E)
  (I:#[I]) (r:im vs us) (h:sp (vs++dvs) H Q E):Vu #[X,X] X.A (call (-f) us) (EP X oq σ Q) X.xe s:=by
 let U:im (vs++dvs) (us++ds):=r.append hd;let hl:↑(us++ds)=↑ps:=by rw[<-↑U];exact F.len _ _ _ _ h
 refine HL (tF (F.run X.A X.stack s H [us:[]] (us++ds) (vs++dvs) Q E hr I.env0 (hb s us I.kIn hl) U h (.inl I.tk)) λr s' O=>?_);cases r with
 |error e=>exact hx oq σ H s e s' I O|ok fl=>
  cases fl with
  |ret u=>exact I.after O|next=>exact V_ O|brk=>exact V_ O|cont=>exact V_ O
def qr (F:FnOk X.prog X.w X.K X.mg X.base CX k f fd ps sp)(hr:mP k X.A)(hg:Gl X x)(hm:X.mg x=u_ (-f))(hk:PySem.W.keepIn X.K (-f)=v_)(hb:Xh X.K fd ps ds)(hd:im dvs ds)(hx:zf CX X E)
  (ha:PA X (e::es) t) (O:(x==("__debug__":Str))=Vt) (he:#[22]) (U:(VL pos (VA es X.env)).any (·.1)=Vt):
  PE X (.Call (.Name x p) (e::es) [] pos) (Ae2 sp dvs E t):=by
 rw[2,Q,I,h];refine vH (Zk I hg hm ?_ O);refine UH (h₀:=X.base) I.ok.mod.kin hk (thn (ha pos oq s σ H _ I h) λus s1 ⟨vs,H1,I1,r,q⟩=>[I1.kIn:?_]) he U;exact Ci F hr hb hd hx I1 r q
def Qw {pl:Sem Bool}(he:PE X o ta)(c:Cls X.K C)(hm:AeJ X.K C m f)(F:FnOk X.prog X.w X.K X.mg X.base CX k f fd ps sp)(hr:mP k X.A)(hb:Xh X.K fd ps ds)(hd:im dvs ds)(hx:zf CX X E)(ha:PA X (e::es) t)
  (O:#[22]) (U:(VL pos (VA es X.env)).any (·.1)=Vt)
  (ht:eval (.Call (.Attribute o m apos) (e::es) [] pos) X.env=(do
   let ov<-eval o X.env
   tI apos.atName
   let(f,first)<-GS [ov] (T8 ov m pl)
   rm pos f first (VL pos (VA (e::es) X.env)) (He pos (Hg [] X.env)))):
  PE X (.Call (.Attribute o m apos) (e::es) [] pos) (AcC C m sp dvs E ta t):=by
 rw[2,Q,I,h];refine PySem.W.methodCall_KW (pl:=pl) (thn (he oq s σ H _ I h) λu s1 zq=>?_) ht;erw[zq,x,H1,I1,rx,a,dx,fs,ex,ea,l,q];subst ex;obtain rfl:u=VB a:=rx;refine kH I1 ea c hm l ?_;refine UH (first:= [-a]) (h₀:=X.base) I.ok.mod.kin hm.kp (thn (ha pos oq s1 σ H1 _ I1 q) λus s2 ⟨vs,H2,I2,r,q2⟩=>[I2.kIn:?_]) O U;exact Ci (us:= .ref a::us) (vs:= .ref a::vs) F hr hb hd hx I2 (.cons rfl r) q2
def QC {pl:Sem Bool}(U:PE X o ta)(c:Cls X.K C)(hm:AeJ X.K C m f)(F:FnOk X.prog X.w X.K X.mg X.base CX k f fd ps sp)(hr:mP k X.A)(hb:Xh X.K fd ps ds)(hd:im dvs ds)(hx:zf CX X E)
  (ht:eval (.Call (.Attribute o m apos) [] [] pos) X.env=(do
   let ov<-eval o X.env
   tI apos.atName
   let(f,first)<-GS [ov] (T8 ov m pl)
   rm pos f first (VL pos (VA [] X.env)) (He pos (Hg [] X.env)))):
  PE X (.Call (.Attribute o m apos) [] [] pos) (AcC C m sp dvs E ta Ack):=by
 rw[2,Q,I,h];refine PySem.W.methodCall_KW (pl:=pl) (thn (U oq s σ H _ I h) λu s1 zq=>?_) ht;erw[zq,x,H1,O,rx,a,dx,fs,ex,ea,l,q];subst ex;obtain rfl:u=VB a:=rx;refine kH O ea c hm l ?_;exact PySem.W.callWith_K0 (first:= [-a]) O.kIn hm.kp (Ci (us:= [-a]) (vs:= [-a]) F hr hb hd hx O (.cons rfl .nil) q)
structure Mk (K:o0)(C f:o3):Prop where
 makes:PySem.W.makesIn K C=v_
 init:PySem.W.findIn K (-C) "__init__"=u_ (u_ (-f))
 fn:PySem.W.isFn K (-f)=v_
 kp:PySem.W.keepIn K (-C)=v_
def MM {oq:#[16]}{σ:St}{H:Hp}{s:o7}{Q:VK}{us:oj o6}{vs:oj V}(M:Mk X.K C f)(F:FnOk X.prog X.w X.K X.mg X.base CX k f fd ps sp)(hr:mP (k+1) X.A)(hb:Xh X.K fd ps ds)(hd:im dvs ds)
  (hx:zf CX X E) (I:#[I]) (r:im vs us)
  (h:∀x dx,H x=U_->H dx=U_->dx≠x->sp (.ref x::(vs++dvs)) (upd (upd H dx (.own x)) x (.ins C dx [])) (λv H2=>v= .non/\Q (-x) H2) E):
  Vu #[X,X] X.A (call (-C) us) (EP X oq σ Q) X.xe s:=by
 let hq:=h (#[0,s]+1) #[0,s] (I.hok.fresh (UO _)) (I.hok.fresh (Vv _)) (uM (Fs _));let U:=Inv.made (C:=C) I;let r2:im (V.ref (#[0,s]+1)::(vs++dvs)) (VB (#[0,s]+1)::(us++ds)):= .cons rfl (r.append hd);let hl:↑(VB (#[0,s]+1)::us++ds)=↑ps:=by
  let e:=↑r2;rw[F.len _ _ _ _ hq] at e;exact e.symm
 refine HL (NE (f:=f) I.kIn M.makes M.init (beq_iff_eq.mp M.fn) (tF (F.run _ X.stack _ _ [VB (#[0,s]+1)::us:[]] (VB (#[0,s]+1)::(us++ds)) _ _ E (hr.make C us [])
  (U.env0.make C us []) (hb _ (VB (#[0,s]+1)::us) U.kIn hl) r2 hq (.inl U.tk)) λr s' O=>?_))
 cases r with
 |error e=>exact hx oq σ _ _ e s' U O|ok fl=>
  cases fl with
  |ret u=>
   erw[U.after O,v,H',I3,rv,ev,q3];subst ev;exact[rv:(V.ref (#[0,s]+1),H',I3,1,q3)]
  |next=>exact V_ O|brk=>exact V_ O|cont=>exact V_ O
def Jq (M:Mk X.K C f)(F:FnOk X.prog X.w X.K X.mg X.base CX k f fd ps sp)(hr:mP (k+1) X.A)(hg:Gl X x)(hm:X.mg x=u_ (-C))(hb:Xh X.K fd ps ds)(hd:im dvs ds)(hx:zf CX X E)
  (ha:PA X (e::es) t) (O:(x==("__debug__":Str))=Vt) (he:#[22]) (U:(VL pos (VA es X.env)).any (·.1)=Vt):
  PE X (.Call (.Name x p) (e::es) [] pos) (AeX C sp dvs E t):=by
 rw[2,Q,I,h];refine vH (Zk I hg hm ?_ O);refine UH (h₀:=X.base) I.ok.mod.kin M.kp (thn (ha pos oq s σ H _ I h) λus s1 ⟨vs,H1,I1,r,q⟩=>[I1.kIn:?_]) he U;exact MM M F hr hb hd hx I1 r q
end
structure qv (N P:oj Str)(sc:VV):Prop where
 kind:sc.kind= .function
 co:sc.isCoroutine=Vt
 gen:sc.isGenerator=Vt
 nd:N.Nodup
 pre:N.take ↑P=P
 par:∀x>P,sc.names.lookup x=u_ .local\/sc.names.lookup x=u_ .cell
 nofree:∀y>sc.names,y.2≠ .free
def AT {kindOf:Str->om Gu}{x:Str}:∀{binds:oj (Str×o6)}{m:Str->om o6},(∀v,(x,v)∉binds)->Gq kindOf binds m x=m x
 | [],_,_=>rfl|(n,v)::r,m,h=>by
  unfold Gq;rw[AT λw O=>h w (ui _ O)];split
  .have:x≠n:=by rintro rfl;exact h v uj
   simp[this]
  .rfl
def AV {kindOf:Str->om Gu}{x:Str}:∀{binds:oj (Str×o6)}{m:Str->om o6},(∀v,(x,v)∉binds)->Gy kindOf binds m x=m x
 | [],_,_=>rfl|(n,v)::r,m,h=>by
  unfold Gy;rw[AV λw O=>h w (ui _ O)];split
  .rfl
  .have:x≠n:=by rintro rfl;exact h v uj
   simp[this]
def AU {kindOf:Str->om Gu}{x:Str}{v:o6}:∀{P:oj Str}{vs:oj o6}{i:Nat}{m:Str->om o6},P.Nodup->P[i]? =u_ x->vs[i]? =u_ v->kindOf x=u_ .local->
  Gq kindOf (P.zip vs) m x=u_ v
 | [],_,_,_,_,h,_,_=>by simp at h|_::_,[],_,_,_,_,h,_=>by simp at h|p::P,w::vs,0,m,nd,h1,h2,hk=>by
  simp at h1 h2;subst h1;subst h2;show Gq kindOf ((p,w)::P.zip vs) m p=_;unfold Gq;rw[AT λv O=>(List.nodup_cons.mp nd).1 (tK O).1,A6 hk];simp
 |p::P,w::vs,i+1,m,nd,h1,h2,hk=>by
  show Gq kindOf ((p,w)::P.zip vs) m x=_;unfold Gq;exact AU (i:=i) (List.nodup_cons.mp nd).2 (by simpa using h1) (by simpa using h2) hk
def AW {kindOf:Str->om Gu}{x:Str}{v:o6}:∀{P:oj Str}{vs:oj o6}{i:Nat}{m:Str->om o6},P.Nodup->P[i]? =u_ x->vs[i]? =u_ v->kindOf x≠u_ .local->
  Gy kindOf (P.zip vs) m x=u_ v
 | [],_,_,_,_,h,_,_=>by simp at h|_::_,[],_,_,_,_,h,_=>by simp at h|p::P,w::vs,0,m,nd,h1,h2,hk=>by
  simp at h1 h2;subst h1;subst h2;show Gy kindOf ((p,w)::P.zip vs) m p=_;unfold Gy;rw[AV λv O=>(List.nodup_cons.mp nd).1 (tK O).1,A4 hk];simp
 |p::P,w::vs,i+1,m,nd,h1,h2,hk=>by
  show Gy kindOf ((p,w)::P.zip vs) m x=_;unfold Gy;exact AW (i:=i) (List.nodup_cons.mp nd).2 (by simpa using h1) (by simpa using h2) hk
abbrev qaj (N:oj Str)(vs:oj V):St:=vs.map u_++VJ (↑N-↑vs) U_
abbrev cxOf (CX:CXT)(P:o9)(w:og)(K:o0)(mg:Str->om o6)(base:o8)(N:oj Str)(qual:Str)(scope:VV)(f:o3)(cd:o6)(A:oh)(outer:oj Env)(s:o7)(H:Hp)(E:XK):Cx where
 prog:=P
 w:=w
 K:=K
 mg:=mg
 base:=base
 A:=A.deeper (VD qual scope #[0,s] f cd)
 N:=N
 s₀:=s
 H₀:=H
 env:=VD qual scope #[0,s] f cd
 outer:=outer
 stack:=VD qual scope #[0,s] f cd::outer
 ex:= []
 calm:=v_
 fn:=λ_=>v_
 pn:= []
 xe:=λe s'=>Vu (VC P w) (A.deeper (VD qual scope #[0,s] f cd)) (rp (VD qual scope #[0,s] f cd) e) (λ_ s''=>CX outer H s E e s'') (λe' s''=>CX outer H s E e' s'') s'
variable {n:Nat}{x:Str}
def Da {sc:VV}(h:sc.names.lookup x=u_ .cell):∃c,(Hv n sc.names []).lookup x=u_ c:=by
 let q:=PySem.W.cellsFrom_some sc.names n [] (.inl h);exact Option.isSome_iff_exists.mp q
def Le {CX:CXT}{P:o9}{w:og}{K:o0}{mg:Str->om o6}{base:o8}{N ps:oj Str}{qual:Str}{scope:VV}{f:o3}{cd:o6}{A:oh}{outer:oj Env}{s s1:o7}{H:Hp}{E:XK}{us:oj o6}{vs:oj V}
  (S:qv N ps scope) (hd:A.handled=U_) (O:Aci P w K mg base A outer s H) (hl:↑vs=↑ps) (r:im vs us)
  (x:tt s #[0,s] (Gq (VD qual scope #[0,s] f cd).kindOf (ps.zip us) λ_=>U_) (Hv (#[0,s]+1) scope.names []) (Gy (VD qual scope #[0,s] f cd).kindOf (ps.zip us) λ_=>U_) s1) (ac:0<s1.toks):
  Inv (cxOf CX P w K mg base N qual scope f cd A outer s H E) [] (qaj N vs) H s1:=by
 let ad:↑ps<=↑N:=by have:=Aa Gi S.pre;rw[U6] at this;omega
 erw[x.done,h1,tk,rfl,hk];let U:∀b:o3,b∉(cxOf CX P w K mg base N qual scope f cd A outer s H E).ex:=λb z=>A9 (show b>([]:oj o3) from z) (by simp)
 rw[_,(O.mod,S.kind,1,1,Vv _,λy z c h1 h2=>?_,λy hy=>?_,λy c _ h=>?_,λ_=>hd,Around.frames_deeper O.frames,.inr [1:1],λb z=>A9 z (U b),O.bs,O.bsz,λb _ _=>U b,λb z=>A9 z (U b),O.funs,O.frf),1,O.bare,Un.kept hk,[_:x.toInCall.ns:λi y v h1 h2 h3=>?_],λy c h=>[_:x.cell y c h],O.hok.fresh (Vv _),λy c h=>?_,λp hp=>A9 (show p>([]:#[16]) from hp) (by simp),O.hok.kept hk,?_,ac]
 .exact name_of_addr x.apart (vR h1) (vR h2)
 .let hy:scope.names.lookup y=u_ .cell\/scope.names.lookup y=u_ .free:=hy;rcases hy with hy|hy
  .exact Da hy
  .exact A9 rfl (S.nofree _ (vR hy))
 .exact vB (x.above y c (vR h))
 .let hi:i<↑vs:=by
   unfold qaj at h2;by_cases hi:i<↑vs
   .exact hi
   .rw[V3 (by simpa using hi)] at h2
    rw[RS] at h2;split at h2<;>cases h2
  let ha:vs[i]? =u_ v:=by
   unfold qaj at h2;rw[V8 (by simpa using hi),uG] at h2
   cases e:vs[i]? with
   |none=>rw[e,0] at h2|some a=>rw[e,0] at h2;rfl
  erw[r.get ha,u,hu,rv];let hp:ps[i]? =u_ y:=by
   rwa[<-S.pre,List.getElem?_take_of_lt ()]
  let aa:ps.Nodup:=by rw[<-S.pre];exact S.nd.sublist (RY _ _)
  rw[_,u,rv];rcases S.par y (uL hp) with k|k
  .exact .inl [k:AU aa hp hu k]
  .erw[Da (n:=#[0,s]+1) k,c,e];refine .inr (.inl k,c,e,?_);let q:=x.cell y c e;rw[AW aa hp hu (by show scope.names.lookup y≠_;rw[k];decide)] at q
   exact q
 .exact O.hok.fresh (vB (x.above y c (vR h)))
 .unfold qaj;show _=↑N;rw[uE,uc,UP];omega
def BV {M:GW}{A:oh}{E:#[14]}{s₀ s:o7}{m cm:Str->om o6}{env:Env}(f:Str×o6->PUnit->Sem (ForInStep PUnit))(hf:∀n v u,f (n,v) u=(do T2 env n v;pure (.yield ⟨⟩)))(O:env.scope.kind= .function)
  (n:Str) (v:o6) (r:oj (Str×o6)) (Q:PUnit->o7->Prop) (x:tt s₀ env.locals m env.cells cm s) (hl:env.kindOf n=u_ .local)
  (aa:∀x>r,env.kindOf x.1=u_ .local\/(env.kindOf x.1=u_ .cell/\(env.cells.lookup x.1).isSome=v_))
  (h:∀s',tt s₀ env.locals (Gq env.kindOf ((n,v)::r) m) env.cells (Gy env.kindOf ((n,v)::r) cm) s'->0<s'.toks->Q ⟨⟩ s'):Vu M A (GK ((n,v)::r) ⟨⟩ f) Q E s:=by
 rw[UQ,hf];refine A8 (A8 (PB hl x.toInCall.ns (λh' ac U=>uu ?_) (by rw[O];rfl)))
 let x1:tt s₀ env.locals (λy=>if y=n then u_ v else m y) env.cells cm {s with heap:=h',toks:=s.toks+1}:=by
  rw[_,(?_,ac,λb o e=>?_,x.toInCall.fresh),λk c hc=>?_,x.apart,x.above]
  .erw[x.toInCall.same,h₁,tk,rfl,<-[h':0]]
  .have:=x.toInCall.keep b o e;exact U.extBut b o (uM (VP (uD e) x.toInCall.fresh)) (x.toInCall.keep b o e)
  .exact(x.cell k c hc).sameBut U (vZ (x.above k c (mem_of_lookup hc)))
 refine uQ (n:=1) (RP (uN _)) (wpAny_bindParams f hf O r _ _ _ _ x1 aa λs' y h1=>h s' ?_ h1);unfold Gq Gy;rw[A6 hl,A6 hl];exact y
def Iz {M:GW}{A:oh}{E:#[14]}{s:o7}{scope:VV}{globals:o3}{binds:oj (Str×o6)}{qual:Str}{func:om o3}{O:o6}{builtins:o3}{Q:Env->o7->Prop}
  (aa:scope.kind= .function)
  (ac:∀x>binds,scope.names.lookup x.1=u_ .local\/(scope.names.lookup x.1=u_ .cell/\((Hv (#[0,s]+1) scope.names []).lookup x.1).isSome=v_))
  (htk:0<s.toks\/∃n v r,binds=(n,v)::r/\scope.names.lookup n=u_ .local)
  (hq:∀en,en=newEnv scope #[0,s] globals (Hv (#[0,s]+1) scope.names []) qual func O U_ builtins->
   ∀s',tt s en.locals (Gq en.kindOf binds λ_=>U_) en.cells (Gy en.kindOf binds λ_=>U_) s'->0<s'.toks->Q en s'):
  Vu M A (FO scope globals [] binds qual func O U_ builtins) Q E s:=by
 rcases htk with htk|⟨n,v,r,rfl,hl⟩
 .exact uQ (n:=1) htk (wpAny_newFunctionEnv_cells aa ac λenv he s' x h1=>hq env he s' x h1)
 .simp![FO,PH,uY,Uq];refine A8 (wpAny_alloc ?_);refine A8 (wpAny_layCells _ (λname kind cells=>by cases ad:kind==GR<;>simp[ad]) _ _ _ _ ?_)
  let U:=cellsFrom_ok scope.names (s.heap.push {cls:= .type "frame",data:= .dict #[]}) (#[0,s]+1) [] [λ_ _ hm=>(nomatch hm):Fy] (by rw[vo];exact Vv _);rw[vo] at U;rw[show({s with heap:=s.heap.push {cls:= .type "frame",data:= .dict #[]}}:o7).heap.objs.size=#[0,s]+1 from vo ..]
  exact A8 (BV (s₀:=s) (env:=newEnv scope #[0,s] globals (Hv (#[0,s]+1) scope.names []) qual func O U_ builtins)
   _ (λ_ _ _=>rfl) aa n v r _
   ((⟨_,_,by rfl⟩,(Heap.Ns.new s.heap (.type "frame")).keeps (RJ _ _),λb o e=>RJ _ _ b o (ug _ e),Vv _),
    λm c hc=>(U.empty m c (mem_of_lookup hc)).1,U.apart,λn c hm=>(U.empty n c hm).2)
   hl (λy hy=>ac y (ui _ hy)) λs' x h1=>uu (hq _ rfl s' x h1))
def AdX {CX:CXT}{P:o9}{w:og}{K:o0}{mg:Str->om o6}{base:o8}{k:Nat}{f:o3}{name qual:Str}{O:Arguments}{U:oj Stmt}{scope:VV}{dV kV doc pm cdv ct oc:o6}{an od:om o3}
  {osl:Array (om o6)}{N ps:oj Str}{sp:Sp} (lk:K.lookup f=u_ (oc,od,.func (PySem.W.fnOf name qual O U scope dV kV doc pm an cdv ct),osl)) (af:PySem.W.codeIn K cdv qual=v_) (S:qv N ps scope)
  (len:∀vs H Q E,sp vs H Q E->↑vs=↑ps)
  (aa:∀(A:oh) (outer:oj Env) (s:o7) (H:Hp) (vs:oj V) (Q:VK) (E:XK),mP k (A.deeper (VD qual scope #[0,s] f cdv))->sp vs H Q E->
   ∃t,PSs (cxOf CX P w K mg base N qual scope f cdv A outer s H E) U t/\t {nx:=λ_ H'=>Q .non H',rt:=Q} (qaj N vs) H):
  FnOk P w K mg base CX (k+1) f (PySem.W.fnOf name qual O U scope dV kV doc pm an cdv ct) ps sp:=by
 rw[_,len,λA outer s H args us vs Q E hr e0 hb r ad htk=>?_];let hl:=len _ _ _ _ ad;let KX:K.In s.heap:=e0.mod.kin.keeps λb o e=>(e0.bs b o e).1;let ag:s.heap.NoLimit:=e0.mod.nolimit.keeps λb o e=>(e0.bs b o e).1;let ac:∀y>ps.zip us,scope.names.lookup y.1=u_ .local\/(scope.names.lookup y.1=u_ .cell/\((Hv (#[0,s]+1) scope.names []).lookup y.1).isSome=v_):=λ⟨n,v⟩ hy=>by
  rcases S.par n (tK hy).1 with q|q
  .exact .inl q
  .exact .inr [q:PySem.W.cellsFrom_some _ _ _ (.inl q)]
 let ae:0<s.toks\/∃n v r,ps.zip us=(n,v)::r/\scope.names.lookup n=u_ .local:=by
  rcases htk with h|⟨y,q,e,hy⟩
  .exact .inl h
  .have:↑us=↑ps:=by rwa[<-↑r]
   subst e
   match us,this with
   |u::us',_=>exact .inr (y,u,q.zip us',1,hy)
 refine codeAny_call_function hr.depth (KX _ _ lk) rfl S.co S.gen rfl (PySem.W.codeRec_of KX af) (hb _ _ _ _ ?_);refine Iz S.kind ac ae λenv he s1 x ah=>?_;subst he;rw[_,ag.keeps x.toInCall.keep,codeAny_func ?_];erw[aa A outer s H vs Q E (hr.deeper _) ad,t,ht,hq];let I:Inv (cxOf CX P w K mg base N qual scope f cdv A outer s H E) [] (qaj N vs) H s1:=Le S hr.hd e0 hl r x ah;refine vz (ht [] s1 (qaj N vs) H _ I hq) (λfl s' hs=>?_) λe s' hs=>hs;let fin:∀{σ':St}{H':Hp}{v:V}{u:o6},Inv (cxOf CX P w K mg base N qual scope f cdv A outer s H E) [] σ' H' s'->ii v u->Q v H'->CE outer P w H s Q u s':=
  λ{σ' H' v u} J rv q=>(v,H',J.os,J.bare,J.tk,J.base,J.hok,rv,q)
 cases fl with
 |ret u=>
  erw[hs,v,σ',H',J,rv,q,<-fin J rv q]
 |next=>
  erw[hs,σ',H',J,q,<-fin (v:=V.non) (u:=Gz) J rfl q]
 |brk=>
  erw[hs,_,_,_,q,<-V_ q]
 |cont=>
  erw[hs,_,_,_,q,<-V_ q]
section
variable {X:Cx}{x:Str}{p pos:Pos}{e:Expr}{es:oj Expr}{t:TA}{id T:String}{r:oj V->Hp->VK->Prop}
abbrev tCB (r:oj V->Hp->VK->Prop)(t:TA):TE:=λσ H Q=>t σ H λvs H1=>r vs H1 Q
def qw (hc:yT X (.builtin id) r)(hg:Gl X x)(hm:X.mg x=U_)(hv:GH x=u_ (.builtin id))(ha:PA X (e::es) t)(hn:x≠"__name__")(O:(x==("__debug__":Str))=Vt)
  (he:#[22]) (U:(VL pos (VA es X.env)).any (·.1)=Vt):PE X (.Call (.Name x p) (e::es) [] pos) (tCB r t):=by
 rw[2,Q,I,h];refine vH (x8 I hg hm hv ?_ hn O);exact oJ (thn (ha pos oq s σ H _ I h) λus s1 ⟨vs,H1,I1,r1,q1⟩=>hc oq s1 σ H1 vs us Q I1 r1 q1) he U
def qX (hc:yT X (.type T) r)(hg:Gl X x)(hm:X.mg x=U_)(hv:GH x=u_ (.type T))(ha:PA X (e::es) t)(hn:x≠"__name__")(O:(x==("__debug__":Str))=Vt)
  (he:#[22]) (U:(VL pos (VA es X.env)).any (·.1)=Vt):PE X (.Call (.Name x p) (e::es) [] pos) (tCB r t):=by
 rw[2,Q,I,h];refine vH (x8 I hg hm hv ?_ hn O);exact vf (thn (ha pos oq s σ H _ I h) λus s1 ⟨vs,H1,I1,r1,q1⟩=>hc oq s1 σ H1 vs us Q I1 r1 q1) he U
end
end L2
namespace HT
open PySem PyProof.Rows
section
variable {prog:o9}{w:og}{A:oh}{E:#[14]}{s:o7}
def cat_tup {t b:o3}{vs ws:oj o6}{Q:#[14]}(ht:Gr s.heap t vs.toArray)(hb:Gr s.heap b ws.toArray)(hv:vs≠ [])
  (h1:ws= []->Q (-t) s) (h2:ws≠ []->Q (.ref #[0,s]) {s with heap:=s.heap.push {cls:= .type "tuple",data:= .seq (vs++ws).toArray}})
  (hsz:↑vs+↑ws<=Vw):Vu #[w,w] A (Gf .Add (-t) (-b)) Q E s:=by
 erw[id ht,[cls,dd,data,sl],ho,hc,n,hd];erw[id hb,[af,U,ae,aa],O,ac,n2,ad];simp only at hc hd ac ad;subst hc hd ac ad;let e:vs.toArray++ws.toArray=(vs++ws).toArray:=by simp
 by_cases hw:ws= []
 .exact FY [_:ho:1] [_:O:1] TD rn PySem.F.slot_tuple_add Vg (Vf _ _)
   (tuple_addW1 t b vs.toArray ws.toArray n n2 dd U sl aa (by simpa using hv) (by simp[hw])) [ho:O:h1 hw]
 .refine FY [_:ho:1] [_:O:1] TD rn PySem.F.slot_tuple_add Vg (Vf _ _)
   (tuple_addW2 t b vs.toArray ws.toArray n n2 dd U sl aa (by simpa using hv) (by simpa using hw) (by rwa[uz,uz])) [ho:O:?_]
  rw[e];exact h2 hw
abbrev sIx (n d:Nat):om Int->Nat
 |none=>d|some v=>if v<0 then(v+(n:Int)).toNat else min v.toNat n
def sIx_none (n d:Nat):sIx n d U_=d:=rfl
def sIx_nat (n d k:Nat):sIx n d (u_ (k:Int))=min k n:=by
 show(if(k:Int)<0 then((k:Int)+(n:Int)).toNat else min (k:Int).toNat n)=min k n
 rw[A4 (),rh]
def AcX (n d:Nat)(hd:d<=n)(o:om Int):sIx n d o<=n:=by
 cases o with
 |none=>exact hd|some v=>
  show(if v<0 then(v+(n:Int)).toNat else min v.toNat n)<=n
  by_cases O:v<0
  .rw[A6 O];omega
  .rw[A4 O];exact Nat.min_le_right _ _
def LU (v:Int)(n d:Nat):(if v<0 then max (v+(n:Int)) 0 else min v (n:Int))=((sIx n d (u_ v):Nat):Int):=by
 show(if v<0 then max (v+(n:Int)) 0 else min v (n:Int))=(((if v<0 then(v+(n:Int)).toNat else min v.toNat n):Nat):Int)
 by_cases O:v<0
 .simp![A6 O];omega
 .simp![A4 O];omega
def DT (lo hi:om Int)(n:Nat):re lo hi 1 (n:Int)=(((sIx n 0 lo:Nat):Int),((sIx n n hi:Nat):Int)):=by
 let h1:¬((1:Int)<0):=by omega
 unfold re;simp![h1,Uq];refine Rs ?_ ?_
 .cases lo with|none=>rfl|some v=>exact LU v n 0
 .cases hi with|none=>rfl|some v=>exact LU v n n
def Dv (i j:Nat):tX (i:Int) (j:Int) 1=j-i:=by
 unfold tX;let h1:GT.gt (1:Int) 0:=by omega
 simp![h1,V5,R9];split<;>omega
def Kq {v:o6}{o:om Int}{Q:om Int->o7->Prop}(p:GD v o)(h:Q o s):Vu #[w,w] A (O6 v) Q E s:=by
 cases p with
 |none=>exact pR h|int i t=>exact slicePart_int h
def Jc {sl:o3}{vl vu:o6}{lo hi:om Int}{n:Nat}{Q:Int×Int×Nat->o7->Prop}(hs:s.heap.IsSliceOf sl vl vu .none)(pl:GD vl lo)(pu:GD vu hi)
  (h:Q (((sIx n 0 lo:Nat):Int),1,sIx n n hi-sIx n 0 lo) s):Vu #[w,w] A (Ps (-sl) (pure (n:Int))) Q E s:=by
 erw[id hs,os,O,aa,U];unfold Ps O2;refine A8 (A8 (vI O U (x:=vl) rfl (A8 (vI O U (x:=vu) rfl (A8 (vI O U (x:= .none) rfl (uu ?_)))))));refine A8 (pR ?_);show Vu _ _ (if((1:Int)==0)=v_ then _ else _) _ _ s
 rw[A4 ()]
 refine A8 (Kq pl (A8 (Kq pu (A8 (uu ?_)))));show Vu _ _ (match re lo hi 1 (n:Int) with|(lo,hi)=>pure (lo,(1:Int),tX lo hi 1)) _ _ s
 rw[DT lo hi n];show Vu _ _ (pure (((sIx n 0 lo:Nat):Int),(1:Int),tX ((sIx n 0 lo:Nat):Int) ((sIx n n hi:Nat):Int) 1)) _ _ s;rw[Dv];exact uu h
def MW (xs:Array o6)(i k:Nat):((VN k).filterMap λ(m:Nat)=>xs[((i:Int)+(m:Int)*1).toNat]?).toArray=((xs.toList.drop i).take k).toArray:=by
 let e:(λ(m:Nat)=>xs[((i:Int)+(m:Int)*1).toNat]?)=λm=>xs[i+m]? :=by
  funext m
  have:((i:Int)+(m:Int)*1).toNat=i+m:=by omega
  rw[this]
 rw[e];have:=pick_run xs i k;rw[List.filterMap_map] at this;let e2:((λx=>xs[x]?)∘λx=>i+x)=λm=>xs[i+m]? :=rfl;rw[e2] at this;rw[this]
def getItem_tuple_cut {t sl:o3}{items:Array o6}{vl vu:o6}{lo hi:om Int}{Q:#[14]}(U:Gr s.heap t items)(hs:s.heap.IsSliceOf sl vl vu .none)(pl:GD vl lo)(pu:GD vu hi)
  (hw:¬(sIx items.size 0 lo=0/\sIx items.size items.size hi=items.size))
  (h:Q (.ref #[0,s]) {s with heap:=s.heap.push {cls:= .type "tuple",data:= .seq ((items.toList.drop (sIx items.size 0 lo)).take (sIx items.size items.size hi-sIx items.size 0 lo)).toArray}})
  (hsz:items.size<=Vw):Vu #[w,w] A (Gx (-t) (-sl)) Q E s:=by
 let O:sizeOk (.seq ((items.toList.drop (sIx items.size 0 lo)).take (sIx items.size items.size hi-sIx items.size 0 lo)).toArray):=by
  show((items.toList.drop (sIx items.size 0 lo)).take (sIx items.size items.size hi-sIx items.size 0 lo)).toArray.size<=Vw;rw[uz,U6,Ug,vi];omega
 let hj:sIx items.size items.size hi<=items.size:=AcX _ _ (Vv _) hi;erw[id hs,os,aa,ac,af];let ad:s.TypeIs (-sl) "slice":=[os:aa:ac];unfold Gx
 try with_reducible refine VX ?_
 first|refine A8 (uu ?_)|skip
 refine A8 (Pe U.typeIs () ?_)
 refine A8 (vJ (name:=Hm "__getitem__") U.typeIs vS
  (U7 vS U.typeIs p9 ?_ (RE _ _)))
 show Vu _ _ (Ri (-t)>>=_) _ _ s;refine A8 (rS U ?_);refine A8 (Gn ad ?_);rw[A6 ()]
 refine A8 (Jc hs pl pu ?_);let ae:¬((((sIx items.size 0 lo:Nat):Int)==0&&(1:Int)==1&&(sIx items.size items.size hi-sIx items.size 0 lo)==items.size)=v_):=by
  intro q;rw[uB,uB] at q;let q1:((sIx items.size 0 lo:Nat):Int)=0:=eq_of_beq q.1.1;let q2:sIx items.size items.size hi-sIx items.size 0 lo=items.size:=eq_of_beq q.2;exact hw [():()]
 show Vu _ _ (if(((sIx items.size 0 lo:Nat):Int)==0&&(1:Int)==1&&(sIx items.size items.size hi-sIx items.size 0 lo)==items.size)=v_ then _ else _) _ _ s
 rw[A4 ae,MW]
 first
  |exact A8 (m:=G_ _) (vq (uu ⟨0,uu h⟩) O)
  |exact A8 (m:=G_ _) (vq (A8 (uu (uu ⟨0,uu h⟩))) O)
  |exact A8 (A8 (m:=G_ _) (vq (uu (uu ⟨0,uu h⟩)) O))
  |exact A8 (A8 (m:=G_ _) (vq (uu ⟨0,uu h⟩) O))
end
end HT
namespace L2
open PySem PySem.Spec PyProof.Rows
nonrec abbrev TO:=St->Hp->(om Int->Hp->Prop)->Prop
abbrev PO (X:Cx)(e:om Expr)(t:TO):Prop:=
 ∀(oq:#[16]) (s:o7) (σ:St) (H:Hp) (Q:om Int->Hp->Prop),#[I]->t σ H Q->
  Vu #[X,X] X.A (evalPart e X.env) (λu s'=>∃o H',Inv X oq σ H' s'/\GD u o/\Q o H') X.xe s
abbrev SM:TO:=λ_ H Q=>Q U_ H
inductive Aeu (Q:(Option Int->Hp->Prop))(x:V)(H1:Hp):Prop
 |mk (i:_)(_:x= .int i)(_:Q (u_ i) H1)
abbrev AeV (t:TE):TO:=λσ H Q=>t σ H λx H1=>Aeu Q x H1
def DM {ns:oj Int}:∀{us:oj o6},im (ns.map V.int) us->Hk us ns:=by
 induction ns with
 |nil=>intro us r;rw[UR,0] at r;exact .nil|cons n ns O=>
  intro us r;rw[ur] at r;cases r with
  |cons U r2=>
   erw[U,t,e];subst e;exact .cons n t (O r2)
section
variable {X:Cx}{e:Expr}{te:TE}{lo hi:om Expr}{tl th:TO}{pos p2:Pos}
def J2:PO X U_ SM:=by
 rw[2,Q,I,h];rw[Fm];exact uu (U_,H,I,.none,h)
def jZ (h:PE X e te):PO X (u_ e) (AeV te):=by
 rw[2,Q,I,O];rw[Rb];refine thn (h oq s σ H _ I O) λu s1 zq=>?_;erw[zq,x,H1,U,r1,q1];erw[q1,i,rfl,q];erw[r1,t,rfl,<-(u_ i,H1,U,.int i t,q)]
abbrev SlR (X:Cx)(r:V->om Int->om Int->Hp->VK->Prop):Prop:=
 ∀(oq:#[16]) (s:o7) (σ:St) (H:Hp) (x:V) (v vl vu:o6) (lo hi:om Int) (sl:o3) (Q:VK),#[I]->ii x v->s.heap.IsSliceOf sl vl vu .none->GD vl lo->GD vu hi->r x lo hi H Q->
  ∃T id,HP (.type T) "__getitem__"=pure (u_ (.builtin id))/\s.TypeIs v T/\Vu #[X,X] X.A (Gx v (-sl)) (EP X oq σ Q) X.xe s
def SlR.or {r O:V->om Int->om Int->Hp->VK->Prop}(h:SlR X r)(h':SlR X O):SlR X (λx lo hi H Q=>r x lo hi H Q\/O x lo hi H Q):=by
 rw[2,x,v,U,vu,lo,hi,sl,Q,I,rx,hs,pl,pu,q];rcases q with q|q
 .exact h oq s σ H x v U vu lo hi sl Q I rx hs pl pu q
 .exact h' oq s σ H x v U vu lo hi sl Q I rx hs pl pu q
abbrev tSl (r:V->om Int->om Int->Hp->VK->Prop)(te:TE)(tl th:TO):TE:=λσ H Q=>te σ H λx H1=>tl σ H1 λl H2=>th σ H2 λu H3=>r x l u H3 Q
def Y7 {r:V->om Int->om Int->Hp->VK->Prop}(hr:SlR X r)(he:PE X e te)(hl:PO X lo tl)(hu:PO X hi th):PE X (.Subscript e (.Slice lo hi U_ p2) pos) (tSl r te tl th):=by
 rw[2,Q,I,h];refine Te (thn (he oq s σ H _ I h) λv s1 zq=>?_);erw[zq,x,H1,I1,r1,q1];refine RX (thn (hl oq s1 σ H1 _ I1 q1) λU s2 ⟨l,H2,I2,pl,q2⟩=>thn (hu oq s2 σ H2 _ I2 q2) λvu O zq=>?_);erw[zq,u,H3,I3,pu,q3];rw[Fm];refine uu ?_;let I4:Inv X oq σ H3 {O with heap:=O.heap.push {cls:= .type "slice",data:= .fields #[U,vu,.none]}}:=I3.kept (t':=O.toks) λb ob q=>ug _ q
 erw[hr oq {O with heap:=O.heap.push {cls:= .type "slice",data:= .fields #[U,vu,.none]}} σ H3 x v U vu l u #[0,O] Q I4 r1 (Rk ..) pl pu q3,T,id,hT,ht,hg]
 show Vu #[X,X] X.A (Tg e (.Slice lo hi U_ p2) v (.ref #[0,O])) (EP X oq σ Q) X.xe {O with heap:=O.heap.push {cls:= .type "slice",data:= .fields #[U,vu,.none]}}
 exact Tz (ops:= [.ref #[0,O],v]) ht hT hg #[w]
abbrev l6 (xs:oj V)(lo hi:om Int):oj V:=(xs.drop (HT.sIx ↑xs 0 lo)).take (HT.sIx ↑xs ↑xs hi-HT.sIx ↑xs 0 lo)
def YI (xs:oj V)(lo hi:om Int):↑(l6 xs lo hi)<=↑xs:=by
 unfold l6;rw[U6,Ug];omega
inductive AgA (K:PySem.W.Frag)(x:V)(lo:Option Int)(hi:Option Int)(H:Hp)(Q:VK):Prop
 |mk (a:_)(xs:_)(_:x=-a)(_:SqT K H a xs)(_:¬(HT.sIx ↑xs 0 lo=0/\HT.sIx ↑xs ↑xs hi=↑xs))(_:∀p,H p=U_->Q (-p) (upd H p (.tup (l6 xs lo hi))))
def AcS:SlR X (AgA X.K):=by
 rw[2,x,v,vl,vu,lo,hi,sl,Q,I,rx,hs,pl,pu,h];erw[h,a,xs,rfl,hx,hw,q];rw[rx,0];erw[I.tuple hx,its,r,U,hz];let O:its.toArray.size=↑xs:=by rw[uz];exact r.length.symm
 rw[_,"tuple",_,PyProof.Rows.slot_tuple_getitem.lookup,U.typeIs];refine HT.getItem_tuple_cut U hs pl pu (by rwa[O]) ?_ (by rwa[O])
 rw[O];rw[_,.ref #[0,s],_,I.laid (t':=s.toks) (o:= .tup (l6 xs lo hi)) (λb ob q=>ug _ q) (Vv _) ?_,1,q _ (I.hok.fresh (Vv _))];exact(uP (YI xs lo hi) hz,_,(r.drop (HT.sIx ↑xs 0 lo)).take (HT.sIx ↑xs ↑xs hi-HT.sIx ↑xs 0 lo),Hl _ _)
inductive Afg (K:PySem.W.Frag)(x:V)(y:V)(H:Hp)(Q:VK):Prop
 |mk (a:_)(b:_)(xs:_)(ys:_)(_:x=-a)(_:y=-b)(_:SqT K H a xs)(_:SqT K H b ys)(_:xs≠ [])(_:↑xs+↑ys<=Vw)(_:(ys= []->Q (-a) H))(_:(ys≠ []->∀p,H p=U_->Q (-p) (upd H p (.tup (xs++ys)))))
variable {xs:oj V}{us:oj o6}
def im.nil_iff (r:im xs us):us= []↔xs= []:=by
 cases r with
 |nil=>simp|cons _ _=>simp
def AaP:OpR X (Gf .Add) (Afg X.K):=by
 rw[2,x,y,v,u,Q,I,rx,ry,h];erw[h,a,b,xs,ys,rfl,rfl,ha,hb,hx,hz,q1,q2];rw[rx,0];rw[ry,0];erw[I.tuple ha,its,U,p1,_];erw[I.tuple hb,aa,O,p2,_];refine HT.cat_tup p1 p2 (λz=>hx (U.nil_iff.mp z)) (λz=>(-a,H,I,1,q1 (O.nil_iff.mp z))) (λz=>?_) (by rwa[<-↑U,<-↑O])
 rw[_,.ref #[0,s],_,I.laid (t':=s.toks) (o:= .tup (xs++ys)) (λb ob q=>ug _ q) (Vv _) ?_,1,q2 (λw=>z (O.nil_iff.mpr w)) _ (I.hok.fresh (Vv _))];exact(by rwa[uE],_,U.append O,Hl _ _)
end
abbrev ixN (n:Nat)(i:Int):om Nat:=if 0<=i then(if i<n then u_ i.toNat else U_) else if-(n:Int)<=i then u_ (i+n).toNat else U_
abbrev atI {α:Type}(xs:oj α)(i:Int):om α:=(ixN ↑xs i).bind λj=>xs[j]?
variable {n j:Nat}
def BJ {i:Int}(h:ixN n i=u_ j):seqIndex? i n=u_ j/\j<n/\ -(n:Int)<=i/\i<n:=by
 unfold ixN at h;by_cases h0:0<=i
 .rw[A6 h0] at h;by_cases h1:i<n
  .rw[A6 h1] at h;let e:i.toNat=j:=uJ h;exact(by rw[Fa h0 h1,e],(),(),h1)
  .rw[A4 h1,0] at h
 .rw[A4 h0] at h;by_cases h1: -(n:Int)<=i
  .rw[A6 h1] at h;let e:(i+n).toNat=j:=uJ h;exact(by rw[seqIndex_neg () h1,e],(),h1,())
  .rw[A4 h1,0] at h
def qaH {α:Type}{xs:oj α}{i:Int}{v:α}(h:atI xs i=u_ v):∃j,seqIndex? i ↑xs=u_ j/\xs[j]? =u_ v/\j<↑xs/\ -(↑xs:Int)<=i/\i<↑xs:=by
 unfold atI at h;cases e:ixN ↑xs i with
 |none=>rw[e,0] at h|some j=>
  rw[e] at h;erw[BJ e,h1,h2,h3,h4,<-(j,h1,h,h2,h3,h4)]
def Qk {α:Type}{xs:oj α}{v:α}(h:xs[j]? =u_ v):atI xs (j:Int)=u_ v:=by
 let O:j<↑xs:=(Ah.mp h).1;let e:ixN ↑xs (j:Int)=u_ j:=by
  unfold ixN;rw[A6 (),A6 ()];simp
 unfold atI;rw[e];exact h
def K0 {α:Type}(xs:oj α)(v:α):atI (xs++ [v]) (-1)=u_ v:=by
 let O:↑(xs++ [v])=↑xs+1:=by simp
 let e:ixN ↑(xs++ [v]) (-1)=u_ ↑xs:=by
  unfold ixN;rw[O,A4 (),A6 ()]
  congr 1
  omega
 unfold atI;rw[e];show(xs++ [v])[↑xs]? =u_ v;simp
abbrev Ab7 (b:Expr):Prop:=∀o i,tm b Vt o i=Tl [o,i] (Gx o i)
abbrev IxR (X:Cx)(r:R2):Prop:=
 ∀(value slice:Expr) (oq:#[16]) (s:o7) (σ:St) (H:Hp) (x y:V) (v u:o6) (Q:VK),#[I]->ii x v->ii y u->r x y H Q->
  tm slice Vt v u=Tl [v,u] (Gx v u)->Vu #[X,X] X.A (Tg value slice v u) (EP X oq σ Q) X.xe s
abbrev MtR (X:Cx)(id:String)(r:V->oj V->Hp->VK->Prop):Prop:=
 ∀(oq:#[16]) (s:o7) (σ:St) (H:Hp) (x:V) (xs:oj V) (v:o6) (us:oj o6) (Q:VK),#[I]->ii x v->im xs us->r x xs H Q->
  Vu #[X,X] X.A (call (.builtin id) (v::us)) (EP X oq σ Q) X.xe s
section
variable {X:Cx}{a b:Expr}{ta tb:TE}{pos:Pos}
def IxR.or {r O:R2}(h:IxR X r)(h':IxR X O):IxR X (λx y H Q=>r x y H Q\/O x y H Q):=by
 intro value slice oq s σ H x y v u Q I U ry q hs;rcases q with q|q
 .exact h value slice oq s σ H x y v u Q I U ry q hs
 .exact h' value slice oq s σ H x y v u Q I U ry q hs
def qL {r:R2}(O:IxR X r)(ha:PE X a ta)(U:PE X b tb)(hs:Ab7 b):PE X (.Subscript a b pos) (tOp r ta tb):=by
 rw[2,Q,I,h];exact Te (AfI ha U I h λv u s2 x y H2 I2 rx ry q=>O a b oq s2 σ H2 x y v u Q I2 rx ry q (hs _ _))
inductive Aff (K:PySem.W.Frag)(x:V)(y:V)(H:Hp)(Q:VK):Prop
 |mk (p:_)(xs:_)(i:_)(v:_)(_:x=-p)(_:y= .int i)(_:SqL K H p xs)(_:atI xs i=u_ v)(_:Q v H)
inductive AaB (K:PySem.W.Frag)(x:V)(y:V)(H:Hp)(Q:VK):Prop
 |mk (p:_)(xs:_)(i:_)(v:_)(_:x=-p)(_:y= .int i)(_:SqT K H p xs)(_:atI xs i=u_ v)(_:Q v H)
inductive Af9 (x:V)(y:V)(H:Hp)(Q:VK):Prop
 |mk (z:_)(i:_)(c:_)(_:x= !z)(_:y= .int i)(_:↑z<=Vw)(_:atI z.cps.toList i=u_ c)(_:Q (.str ⟨#[c]⟩) H)
def yu:IxR X (Aff X.K):=by
 intro value slice oq s σ H x y v u Q I rx ry h hs;erw[h,p,xs,i,z,rfl,rfl,hq,he,q];rw[rx,0];erw[ry,t,rfl];erw[I.list hq,its,r,pl,hz];erw[qaH he,j,h1,h2,h3,h4,h5];erw[r.get h2,w,ew,O];let hl:=↑r;let hn:=ZJ;let fin:EP X oq σ Q w s:=(z,H,I,O,q);by_cases h0:0<=i
 .let U:i.toNat=j:=by
   rw[Fa h0 h5] at h1;exact uJ h1
  exact item_listR pl.isList h0 () (by rw[U];simpa using ew) fin hs
 .let U:(i+(its.toArray.size:Int)).toNat=j:=by
   rw[seqIndex_neg () h4] at h1
   rw[uz,<-hl];exact uJ h1
  exact rP (x:=w) pl.isList.typeIs slot_list_getitem.lookup
   (wpAny_getItem_list_neg (Q:=λr s'=>r=w/\EP X oq σ Q r s') pl.isList () (by rw[uz]<;>omega) () (by rw[U];simpa using ew) [1:fin]) hs
def qJ:IxR X (AaB X.K):=by
 intro value slice oq s σ H x y v u Q I U ry h hs;erw[h,p,xs,i,z,rfl,rfl,hq,he,q];rw[U,0];erw[ry,t,rfl];erw[I.tuple hq,its,r,pl,hz];erw[qaH he,j,h1,h2,h3,h4,h5];erw[r.get h2,w,ew,O];let hl:=↑r;let hn:=ZJ;let fin:EP X oq σ Q w s:=(z,H,I,O,q);exact rP (x:=w) pl.typeIs slot_tuple_getitem.lookup
  (getItem_tuple (j:=j) (Q:=λr s'=>r=w/\EP X oq σ Q r s') pl () () (by rwa[uz,<-hl]) (by simpa using ew) [1:fin]) hs
def CQ:IxR X Af9:=by
 intro value slice oq s σ H x y v u Q I O U h hs;erw[h,z,i,c,rfl,rfl,hz,he,q];erw[O,t,rfl];erw[U,t',rfl];erw[qaH he,j,h1,h2,h3,h4,h5];let hl:↑z.cps.toList=↑z:=by simp[GJ]
 rw[hl] at h1 h4 h5;let hn:=ZJ;exact Tz (vT s z t) slot_str_getitem.lookup (getItem_str (c:=c) (by
  let e1:decide (i< -(2^63:Int))=false:=ub ()
  let e2:decide (i≥2^63)=false:=ub ()
  rw[e1,e2,Bool.or_false]) (by rw[h1];simpa using h2) (.str ⟨#[c]⟩,H,I.tok _,⟨0⟩,q)) hs
abbrev rIx (K:o0):R2:=λx y H Q=>Aff K x y H Q\/AaB K x y H Q\/Af9 x y H Q
def Jz:IxR X (rIx X.K):=yu.or (qJ.or CQ)
def DD (its:oj o6)(n j:Nat)(u:o6):Ge (·.setIfInBounds j u) {cls:= .type "list",data:= .seq its.toArray n}={cls:= .type "list",data:= .seq (its.set j u).toArray n}:=by
 simp[Ge]
def Inv.lst {oq:#[16]}{σ:St}{H:Hp}{s:o7}{p:o3}{xs:oj V}(I:#[I])(h:H p=u_ (.lst xs)):
  ∃(its:oj o6) (n:Nat),im xs its/\s.heap.get? p=u_ {cls:= .type "list",data:= .seq its.toArray n}/\↑xs<=sizeLine:=by
 erw[I.hok p _ h,z,its,n,r,e,<-(its,n,r,e,z)]
def Inv.lstUpd {oq:#[16]}{σ:St}{H:Hp}{s:o7}{p:o3}{xs ys:oj V}{its its':oj o6}{n O:Nat}{f:Obj->Obj}(I:#[I])(h:H p=u_ (.lst xs))
  (ho:s.heap.get? p=u_ {cls:= .type "list",data:= .seq its.toArray n}) (U:f {cls:= .type "list",data:= .seq its.toArray n}={cls:= .type "list",data:= .seq its'.toArray O}) (r:im ys its') (hz:↑ys<=Vw) (t:Nat) (ht:0<t:=by ac_rfl):
  Inv X oq σ (upd H p (.lst ys)) {s with heap:=s.heap.update p f,toks:=t}:=by
 let e:(s.heap.update p f).get? p=u_ {cls:= .type "list",data:= .seq its'.toArray O}:=by
  rw[T7 f ho (by rw[U]<;>rfl),U]
 refine I.write (x:=p) (e:=p) (by rw[h];trivial) (.inl rfl) (λb u hb q=>(vO _ _ (Uv hb)).trans q) [_:e] ?_
 exact(hz,its',O,r,e)
inductive Afa (o:V)(i:V)(v:V)(H:Hp)(Q:(Hp->Prop)):Prop
 |mk (p:_)(xs:_)(k:_)(j:_)(_:o=-p)(_:i= .int k)(_:H p=u_ (.lst xs))(_:ixN ↑xs k=u_ j)(_:Q (upd H p (.lst (xs.set j v))))
def ML:Agl X Afa:=by
 rw[2,o,i,v,ov,iv,u,Q,I,ro,ri,rv,h];erw[h,p,xs,k,j,rfl,rfl,hp,hj,q];rw[ro,0];erw[ri,t,rfl];erw[I.lst hp,its,n,r,O,hz];erw[BJ hj,h1,h2,h3,h4];let U:=↑r;let hn:=ZJ;let I':Inv X oq σ (upd H p (.lst (xs.set j v))) {s with heap:=s.heap.update p (Ge (·.setIfInBounds j u))}:=
  I.lstUpd hp O (DD its n j u) (r.set rv j) (by rwa[rH]) s.toks
 by_cases h0:0<=k
 .let hk:k.toNat=j:=by
   rw[Fa h0 h4] at h1;exact uJ h1
  exact PySem.W.ki_setAt O h0 () (by rwa[uz,<-U]) (by rw[hk];exact[_:I':q])
 .let hk:(k+(its.toArray.size:Int)).toNat=j:=by
   rw[seqIndex_neg () h3] at h1
   rw[uz,<-U];exact uJ h1
  exact PySem.W.ki_setBack O () (by rwa[uz,<-U]) () (by rw[hk];exact[_:I':q])
def sA (lo hi:om Int)(n:Nat):(GG lo hi U_ n).1=((HT.sIx n 0 lo:Nat):Int)/\(GG lo hi U_ n).2.1=((HT.sIx n n hi:Nat):Int)/\(GG lo hi U_ n).2.2=1:=by
 rw[_,?_,?_,1]
 .cases lo with
  |none=>simp[GG,HT.sIx]|some i=>
   simp![GG,HT.sIx,pp,show GT.gt (1:Int) 0 by decide,V5]
   by_cases h:i<0
   .simp![h,V5]<;>omega
   .simp![h,Uq]<;>omega
 .cases hi with
  |none=>simp[GG,HT.sIx]|some i=>
   simp![GG,HT.sIx,pp,show GT.gt (1:Int) 0 by decide,V5]
   by_cases h:i<0
   .simp![h,V5]<;>omega
   .simp![h,Uq]<;>omega
def qaw (its:oj o6)(lo hi:om Int):Fz its.toArray lo hi U_=((its.drop (HT.sIx ↑its 0 lo)).take (HT.sIx ↑its ↑its hi-HT.sIx ↑its 0 lo)).toArray:=by
 erw[sA lo hi its.toArray.size,h1,h2,h3];unfold Fz;rw[h1,h2,h3];simp![sliceRange_one,pick_run,uz]<;>rfl
inductive AgB (K:PySem.W.Frag)(x:V)(lo:Option Int)(hi:Option Int)(H:Hp)(Q:VK):Prop
 |mk (a:_)(xs:_)(_:x=-a)(_:SqL K H a xs)(_:∀p,H p=U_->Q (-p) (upd H p (.lst (l6 xs lo hi))))
def zS:SlR X (AgB X.K):=by
 rw[2,x,v,vl,vu,lo,hi,sl,Q,I,rx,hs,pl,pu,h];erw[h,a,xs,rfl,hx,q];rw[rx,0];erw[I.list hx,its,r,U,hz];let O:=↑r;rw[_,"list",_,slot_list_getitem.lookup,U.isList.typeIs];refine Pg U.isList hs pl pu .none (by simp) ?_ (by rw[uz]<;>omega)
 rw[qaw,<-O];rw[_,.ref #[0,s],_,I.laid (t':=s.toks) (o:= .lst (l6 xs lo hi)) (λb ob q=>ug _ q) (Vv _) ?_,1,q _ (I.hok.fresh (Vv _))];exact(uP (YI xs lo hi) hz,_,(0),(r.drop (HT.sIx ↑xs 0 lo)).take (HT.sIx ↑xs ↑xs hi-HT.sIx ↑xs 0 lo),uC _ rfl)
abbrev wf:V->Bool
 | .non=>v_| .bl _=>v_| .int _=>v_| .str _=>v_|_=>Vt
abbrev eqV:V->V->Bool
 | .non,.non=>v_| .bl a,.bl b=>a==b| .bl a,.int b=>(if a then 1 else 0)==b| .int a,.bl b=>a==(if b then 1 else 0)| .int a,.int b=>a==b| .str a,.str b=>a==b|_,_=>Vt
variable {A:oh}{s:o7}{y:V}{u:o6}
def Ad0 {x:V}{v:o6}(U:ii y u)(O:ii x v)(fy:wf y=v_)(fx:wf x=v_):Gm A s u v (eqV y x):=by
 cases y with
 |non=>
  rw[U,0];cases x with
  |non=>rw[O,0];exact tM _|bl b=>rw[O,0];exact PZ b|int b=>erw[O,t,rfl,<-R1 b t]|str b=>erw[O,t,rfl,<-pT b t]|_=>exact A9 (show Vt=v_ from fx) uh
 |bl a=>
  rw[U,0];cases x with
  |non=>rw[O,0];exact O5 a|bl b=>rw[O,0];exact oR a b|int b=>erw[O,t,rfl,<-oQ a b t]|str b=>erw[O,t,rfl,<-oN a b t]|_=>exact A9 (show Vt=v_ from fx) uh
 |int a=>
  erw[U,t',rfl];cases x with
  |non=>rw[O,0];exact R_ a t'|bl b=>rw[O,0];exact O4 a t' b|int b=>erw[O,t,rfl,<-rW a t' b t]|str b=>erw[O,t,rfl,<-FB a t' b t]|_=>exact A9 (show Vt=v_ from fx) uh
 |str a=>
  erw[U,t',rfl];cases x with
  |non=>rw[O,0];exact RK a t'|bl b=>rw[O,0];exact oW a t' b|int b=>erw[O,t,rfl,<-Fp a t' b t]|str b=>erw[O,t,rfl,<-FQ a t' b t]|_=>exact A9 (show Vt=v_ from fx) uh
 |_=>exact A9 (show Vt=v_ from fy) uh
abbrev eqU (x:V)(u:o6):Bool:=match u with
 | .none=>eqV .non x| .bool b=>eqV (.bl b) x| .int i _=>eqV (.int i) x| .str z _=>eqV (!z) x|_=>Vt
def Sl {x:V}(r:ii y u)(f:wf y=v_):eqU x u=eqV y x:=by
 cases y with
 |non=>rw[r,0];rfl|bl b=>rw[r,0];rfl|int i=>erw[r,t,rfl];rfl|str z=>erw[r,t,rfl];rfl|_=>exact A9 (show Vt=v_ from f) uh
def BY {x:V}:∀{xs:oj V}{us:oj o6},im xs us->xs.all wf=v_->us.any (eqU x)=xs.any λy=>eqV y x
 |_,_,.nil,_=>rfl|y::xs,u::us,.cons r t,f=>by
  rw[vK,uB] at f;rw[UX,UX,Sl r f.1,BY t f.2]
def KQ {A:oh}{s:o7}{x:V}{v:o6}(U:ii x v)(fx:wf x=v_):∀{xs:oj V}{us:oj o6},im xs us->xs.all wf=v_->∀u>us,Gm A s u v (eqU x u)
 |_,_,.nil,_=>λu O=>by rw[O,0]|y::xs,u::us,.cons r t,f=>λu' O=>by
  rw[vK,uB] at f;rcases Ab.mp O with rfl|O
  .rw[Sl r f.1];exact Ad0 r U f.1 fx
  .exact KQ U fx t f.2 u' O
abbrev inV (x:V)(xs:oj V):Bool:=xs.any λy=>eqV y x
inductive rIn (K:PySem.W.Frag)(neg:Bool)(x:V)(y:V)(H:Hp)(Q:VK):Prop
 |mk (p:_)(xs:_)(_:y=-p)(_:(SqL K H p xs\/SqT K H p xs))(_:wf x=v_)(_:xs.all wf=v_)(_:Q (.bl (if neg then !(inV) x xs else inV x xs)) H)
def ya:OpR X (VM .In) (rIn X.K Vt):=by
 rw[2,x,y,v,u,Q,I,rx,ry,h];erw[h,p,xs,rfl,O,fx,fs,q];rw[ry,0];rcases O with O|O
 .erw[I.list O,its,r,pl,hz];refine PY (eqU x) pl.isList (λw U=>KQ rx fx r fs w (by simpa using U)) (.bl _,H,I,1,?_)
  rw[show its.toArray.any (eqU x)=its.any (eqU x) by simp,BY r fs]
  exact q
 .erw[I.tuple O,its,r,pl,hz];refine PV (eqU x) pl (λw U=>KQ rx fx r fs w (by simpa using U)) (.bl _,H,I,1,?_)
  rw[show its.toArray.any (eqU x)=its.any (eqU x) by simp,BY r fs]
  exact q
def wd:OpR X (VM .NotIn) (λx y H Q=>∃i j,x= .str i/\y= .str j/\Q (.bl (!(!(tj j i 0 ↑j 1).isEmpty))) H):=by
 rw[2,x,y,v,u,Q,I,O,U,h];erw[h,i,j,rfl,rfl,q];erw[O,t,rfl];erw[U,t',rfl,<-notIn_str (.bl _,H,I,1,q)]
def qN:yT X (.builtin "len") (λxs H Q=>∃p ys,xs= [-p]/\(SqL X.K H p ys\/SqT X.K H p ys)/\Q (.int ↑ys) H):=by
 rw[2,xs,us,Q,I,r,h];erw[h,p,ys,rfl,U,q];erw[jL r,u,rfl,rx];rw[rx,0];let hn:=ZJ;rcases U with U|U
 .erw[I.list U,its,r',pl,hz];let O:=↑r';exact rT pl.isList (by simp![uz]<;>omega) (.int ↑ys,H,I.tok _,⟨s.toks+1,by rw[uz,O]⟩,q)
 .erw[I.tuple U,its,r',pl,hz];let O:=↑r';exact len_tuple pl (by simp![uz]<;>omega) (.int ↑ys,H,I.tok _,⟨s.toks+1,by rw[uz,O]⟩,q)
def JR:yT X (.builtin "len") (λxs H Q=>∃z,xs= [!z]/\↑z<=Vw/\Q (.int ↑z) H):=by
 rw[2,xs,us,Q,I,r,h];erw[h,z,rfl,hz,q];erw[jL r,u,rfl,t,rfl];let hn:=ZJ;exact len_str () (.int ↑z,H,I.tok _,⟨0⟩,q)
def Qd:yT X (.type "tuple") (λxs H Q=>∃p ys,xs= [-p]/\((SqL X.K H p ys/\∀l,H l=U_->Q (-l) (upd H l (¬ys)))\/(SqT X.K H p ys/\Q (-p) H))):=by
 rw[2,xs,us,Q,I,r,h];erw[h,p,ys,rfl,h];erw[jL r,u,rfl,rx];rw[rx,0];rcases h with⟨O,q⟩|⟨O,q⟩
 .erw[I.list O,its,U,pl,hz];let aa:=↑U;refine call_tuple_list pl.isList (λh' kp=>?_) (by simp![uz]<;>omega)
  let I1:Inv X oq σ H {s with heap:=h'}:=I.kept (t':=s.toks) kp
  let I2:Inv X oq σ (upd H h'.objs.size (¬ys)) {s with heap:=h'.push {cls:= .type "tuple",data:= .seq its.toArray}}:=
   I1.laid (t':=s.toks) (λb o e=>ug _ e) (Vv _) (show QT X.prog X.w _ _ _ (¬ys) from(hz,its,U,Hl _ _))
  exact(-h'.objs.size,_,I2,1,q _ (I1.hok.fresh (Vv _)))
 .erw[I.tuple O,its,U,pl,hz,<-call_tuple_same pl (-p,H,I,1,q)]
abbrev tyV (K:o0)(T:String)(x:V)(H:Hp):Prop:=match x with
 | .str _=>T="str"| .int _=>T="int"| .ref p=>(T="list"/\∃xs,SqL K H p xs)\/(T="tuple"/\∃o,K.lookup p=u_ o/\o.cls= .type "tuple"/\o.dict=U_)\/
   (T="dict"/\((∃kvs,H p=u_ (.dK kvs))\/∃kvs,H p=u_ (.dT kvs)))\/(T="set"/\∃S n,H p=u_ (.set S n))
 |_=>False
variable {oq:#[16]}{σ:St}{H:Hp}
def Ot {T:String}{x:V}{v:o6}(I:#[I])(r:ii x v)(ty:tyV X.K T x H):
  s.TypeIs v T/\∀a,v= .ref a->∃ob,s.heap.get? a=u_ ob/\ob.dict=none:=by
 cases x with
 |str z=>
  erw[r,t,rfl];rw[show T="str" from ty,0]
  exact[vT s z t:λ_ e=>nomatch e]
 |int i=>
  erw[r,t,rfl];rw[show T="int" from ty,0]
  exact[Vq s i t:λ_ e=>nomatch e]
 |ref p=>
  rw[r,0];rcases ty with⟨rfl,xs,U⟩|⟨rfl,o,O,hc,hd⟩|⟨rfl,O⟩|⟨rfl,S,n,O⟩
  .erw[I.list U,its,_,pl,_];rw[_,pl.isList.typeIs,λa e=>?_];rw[e,0];erw[pl,o,n,e,c,hd,_,<-[o:e:hd]]
  .rw[_,[o:I.kIn p o O:hc],λa e=>?_];rw[e,0];exact[o:I.kIn _ o O:hd]
  .let z:∃o,s.heap.get? p=u_ o/\o.ExactDict:=by
    rcases O with⟨kvs,O⟩|⟨kvs,O⟩
    .erw[I.hok p _ O,_,_,_,_,o,_,_,e,ex,_,<-[o:e:ex]]
    .erw[I.hok p _ O,_,_,_,_,o,_,_,e,ex,_,<-[o:e:ex]]
   erw[z,o,e,ex];rw[_,[o:e:ex.1],λa e2=>?_];rw[e2,0];exact[o:e:ex.2.1]
  .erw[I.hok p _ O,o,_,_,_,e,ex,_];rw[_,[o:e:ex.1],λa e2=>?_];rw[e2,0];exact[o:e:ex.2.1]
 |_=>exact V_ ty
abbrev Agu (K:o0)(T:String)(r:V->oj V->Hp->VK->Prop)(to:TE):TE:=λσ H Q=>to σ H λx H1=>tyV K T x H1/\r x [] H1 Q
abbrev tBM (K:o0)(T:String)(r:V->oj V->Hp->VK->Prop)(to:TE)(t:TA):TE:=λσ H Q=>to σ H λx H1=>tyV K T x H1/\t σ H1 λxs H2=>r x xs H2 Q
variable {o e:Expr}{es:oj Expr}{to:TE}{t:TA}{name:Str}{apos cpos:Pos}{T id:String}{r:V->oj V->Hp->VK->Prop}
def ON (pa:Fw T)(slot:Slot T name id)(aa:Hy (.builtin id)=pure (.type "method_descriptor"))(hm:MtR X id r)(ho:PE X o to)
  (O:GM o name X.env (eval o X.env)=eval o X.env) (U:(apos.endLine==cpos.line)=v_):PE X (.Call (.Attribute o name apos) [] [] cpos) (Agu X.K T r to):=by
 rw[2,Q,I,h];refine PM O U (thn (ho oq s σ H _ I h) λv s1 zq=>?_);erw[zq,x,H1,I1,r1,ty,q1];erw[Ot I1 r1 ty,h1,h2,<-(T,id,pa,slot,aa,h1,h2,vP rfl (PySem.evalArgs_none (hm oq s1 σ H1 x [] v [] Q I1 r1 .nil q1)))]
def Jm (pa:Fw T)(slot:Slot T name id)(ad:Hy (.builtin id)=pure (.type "method_descriptor"))(hm:MtR X id r)(ho:PE X o to)(ha:PA X (e::es) t)
  (U:GM o name X.env (eval o X.env)=eval o X.env:=by rfl)
  (ac:((VL cpos (VA (e::es) X.env)).all (λx=> !(x).1)&&(He cpos (Hg [] X.env)).all (λx=>x.1.isSome)
   &&decide (↑(e::es)+↑([]:oj GV)+(if([]:oj GV).isEmpty then 0 else 1)<30))=true:=by rfl)
  (aa:(apos.endLine==cpos.line)=true:=by rfl) (hs:#[22]:=by rfl) (O:(VL cpos (VA es X.env)).any (·.1)=false:=by rfl):
  PE X (.Call (.Attribute o name apos) (e::es) [] cpos) (tBM X.K T r to t):=by
 rw[2,Q,I,h];refine wpAny_Call_method_late U ac aa rfl (thn (ho oq s σ H _ I h) λv s1 zq=>?_);erw[zq,x,H1,I1,r1,ty,q1];erw[Ot I1 r1 ty,h1,h2];rw[_,T,id,pa,slot,ad,h1,h2];let hA:=ha cpos oq s1 σ H1 _ I1 q1;rw[hs] at hA⊢;refine vP (by show(Vt||(VL cpos (VA es X.env)).any (·.1))=Vt;rw[O]<;>rfl) (Ur ?_)
 exact thn hA λus s2 ⟨vs,H2,I2,r2,q2⟩=>hm oq s2 σ H2 x vs v us Q I2 r1 r2 q2
end
abbrev MtM (X:Cx)(id:String)(r:V->oj V->Hp->VK->Prop):Prop:=
 ∀(oq:#[16]) (s:o7) (σ:St) (H:Hp) (x:V) (xs:oj V) (v:o6) (us:oj o6) (Q:VK),#[I]->ii x v->im xs us->r x xs H Q->
  Vu #[X,X] X.A (call (.builtin id) (v::us)) (EP X oq σ Q) X.xe s
def im.one:∀{x:V}{us:oj o6},im [x] us->∃u,us= [u]/\ii x u
 |_,_,.cons r .nil=>[0:r]
def im.zero:∀{us:oj o6},im [] us->us= []
 |_,.nil=>rfl
variable {xs:oj V}{us:oj o6}
def im.dropLast (h:im xs us):im xs.dropLast us.dropLast:=by
 induction h with
 |nil=>exact .nil|cons r t O=>
  cases t with
  |nil=>exact .nil|cons q t'=>exact .cons r O
def im.rep {xs:oj V}{us:oj o6}(h:im xs us):∀k:Nat,im (VJ k xs).flatten (VJ k us).flatten
 |0=> .nil|k+1=>by
  rw[vU,vU,UY,UY];exact im.append h (im.rep h k)
def DP {α:Type}(l:oj α):l.eraseIdx (↑l-1)=l.dropLast:=by
 induction l with
 |nil=>rfl|cons a r O=>
  cases r with
  |nil=>rfl|cons b r=>
   let e:↑(a::b::r)-1=(↑(b::r)-1)+1:=by
    let h1:↑(a::b::r)=↑r+2:=rfl;let h2:↑(b::r)=↑r+1:=rfl;omega
   rw[e,List.eraseIdx_cons_succ,O]
   all_goals rfl
def AG (its:oj o6):∀(k:Nat) (O:oj o6),
  rZ (λx1 x2=>x1++x2) O.toArray (VJ k its.toArray)=(O++(VJ k its).flatten).toArray
 |0,O=>by simp|k+1,O=>by
  let e:O.toArray++its.toArray=(O++its).toArray:=by simp
  let e2:(O++its)++(VJ k its).flatten=O++(VJ (k+1) its).flatten:=by
   rw[vU,UY,Ut]
  rw[<-e2,<-AG its k (O++its),<-e,vU,List.foldl_cons]
section
variable {X:Cx}{oq:#[16]}{σ:St}{H:Hp}{s:o7}{l b:o3}{xs ys zs:oj V}
def Inv.lset {its its':oj o6}{n:Nat}{f:Array o6->Array o6}{t':Nat}(I:#[I])(O:H l=u_ (.lst xs))
  (e:s.heap.get? l=u_ {cls:= .type "list",data:= .seq its.toArray n}) (U:f its.toArray=its'.toArray) (hv:im ys its') (hz:↑ys<=Vw) (ht:0<t':=by ac_rfl):
  Inv X oq σ (upd H l (.lst ys)) {s with heap:=s.heap.update l (Ge f),toks:=t'}:=by
 let q:=PySem.IsL.update e f;rw[U] at q;refine I.write (x:=l) (e:=l) (by rw[O];exact trivial) (.inl rfl) (λb' u hb hu=>(vO s.heap (Ge f) (Uv hb)).trans hu) [_:q] ?_
 exact(hz,its',_,hv,q)
variable {its:oj o6}{t':Nat}
def Inv.lnew (I:#[I])(O:im ys its)(hz:↑ys<=Vw)(U:0<t':=by ac_rfl):
  Inv X oq σ (upd H #[0,s] (.lst ys)) {s with heap:=s.heap.push {cls:= .type "list",data:= .seq its.toArray},toks:=t'}:=
 I.laid (λ_ _ q=>ug _ q) (Vv _) (hz,its,(0),O,uC _ rfl)
def Inv.fresh (I:#[I]):H #[0,s]=none:=I.hok.fresh (Vv _)
def Inv.lstM (I:#[I])(O:H l=u_ (.lst xs)):↑xs<=Vw/\∃(its:oj o6) (n:Nat),im xs its/\↑xs=↑its/\s.heap.get? l=u_ {cls:= .type "list",data:= .seq its.toArray n}:=by
 erw[I.hok l _ O,z,its,n,r,e,<-(z,its,n,r,↑r,e)]
def Nx (h:n<=Vw):FR n=false:=by
 unfold FR;exact ub ()
end
section
variable {X:Cx}
inductive EH (x:V)(vs:List V)(H:Hp)(Q:VK):Prop
 |mk (l:_)(xs:_)(y:_)(_:x=-l)(_:vs= [y])(_:H l=u_ (.lst xs))(_:↑xs<Vw)(_:Q .non (upd H l (.lst (xs++ [y]))))
def jv:MtM X "list.append" EH:=by
 rw[2,x,vs,v,us,Q,I,U,rv,h];erw[h,l,xs,y,rfl,rfl,O,hz,q];rw[U,0];erw[rv.one,u,rfl,ru];erw[I.lstM O,z,its,n,r,hl,e];refine vw F.slot_list_append [_:e:1] F.entry_list_append (F.args_list_append_2 _ _) (PySem.list_append l its.toArray n u (by rw[uz];omega)) [e:?_]
 rw[_,.non,_,I.lset (its':=its++ [u]) O e (by simp) (r.append (.cons ru .nil)) ?_,1,q]
 rw[uE,Uh];omega
inductive AaC (x:V)(vs:List V)(H:Hp)(Q:VK):Prop
 |mk (l:_)(b:_)(xs:_)(zs:_)(_:x=-l)(_:vs= [-b])(_:H l=u_ (.lst xs))(_:H b=u_ (.lst zs))(_:↑xs+↑zs<=Vw)(_:Q .non (upd H l (.lst (xs++zs))))
def An:MtM X "list.extend" AaC:=by
 rw[2,x,vs,v,us,Q,I,rx,rv,h];erw[h,l,b,xs,zs,rfl,rfl,hH,hB,hz,q];rw[rx,0];erw[rv.one,u,rfl,ru];rw[ru,0];erw[I.lstM hH,z,its,n,r,hl,e];erw[I.lstM hB,z2,O,n2,r2,aa,e2];let hsz:its.toArray.size+O.toArray.size<=sizeLine:=by rw[uz,uz];omega
 let U:¬(!(its.toArray.isEmpty)&&FR (its.toArray.size+O.toArray.size))=true:=by
  rw[Nx hsz,F_];exact uh
 refine vw F.slot_list_extend [_:e:1] F.entry_list_extend (F.args_list_extend_2 _ _)
  (oZ l its.toArray n b O.toArray n2 U (by rw[uz];omega) ()) [e:e2:?_]
 rw[_,.non,_,I.lset (its':=its++O) hH e (by simp) (r.append r2) ?_,1,q]
 rw[uE];omega
inductive AgC (x:V)(vs:List V)(H:Hp)(Q:VK):Prop
 |mk (l:_)(xs:_)(y:_)(_:x=-l)(_:vs= [])(_:H l=u_ (.lst xs))(_:xs[↑xs-1]? =u_ y)(_:Q y (upd H l (.lst xs.dropLast)))
def OY:MtM X "list.pop" AgC:=by
 rw[2,x,vs,v,us,Q,I,rx,rv,h];erw[h,l,xs,y,rfl,rfl,hH,hy,q];rw[rx,0];let O:=rv.zero;subst O;erw[I.lstM hH,z,its,n,r,hl,e];erw[r.get hy,u,hu,ru];let U:its.toArray[its.toArray.size-1]? =u_ u:=by
  show its.toArray[↑its-1]? =u_ u;rwa[<-Ui,<-hl]
 refine vw F.slot_list_pop [_:e:1] F.entry_list_pop (F.args_list_pop_1 _) (oV l its.toArray n u U (by rw[uz];omega)) [e:?_]
 rw[_,y,_,I.lset (its':=its.dropLast) hH e ?_ r.dropLast ?_,ru,q]
 .show its.toArray.eraseIdxIfInBounds (its.toArray.size-1)=its.dropLast.toArray;rw[uz,List.eraseIdxIfInBounds_toArray,DP]
 .rw[List.length_dropLast];omega
inductive AgH (x:V)(y:V)(H:Hp)(Q:VK):Prop
 |mk (l:_)(b:_)(xs:_)(zs:_)(_:x=-l)(_:y=-b)(_:H l=u_ (.lst xs))(_:H b=u_ (.lst zs))(_:↑xs+↑zs<=Vw)(_:∀p,H p=U_->Q (-p) (upd H p (.lst (xs++zs))))
def ZC:OpR X (Gf .Add) AgH:=by
 rw[2,x,y,v,u,Q,I,U,ry,h];erw[h,l,b,xs,zs,rfl,rfl,hH,hB,hz,q];rw[U,0];rw[ry,0];erw[I.lstM hH,z,its,n,r,hl,e];erw[I.lstM hB,z2,O,n2,r2,aa,e2];refine PySem.P.add_list e e2 ?_ (by rw[uz,uz];omega)
 let ea:its.toArray++O.toArray=(its++O).toArray:=by simp
 rw[ea];exact(.ref _,_,I.lnew (t':=s.toks) (r.append r2) (by rw[uE];omega),1,q _ I.fresh)
def IM {α:Type}(xs:oj α)(k:Nat):(VJ k xs).flatten.length=k*↑xs:=by
 induction k with
 |zero=>simp|succ k O=>rw[vU,UY,uE,O,Pd,Re]
end
section
variable {prog:o9}{w:og}{A:oh}{E:#[14]}{s:o7}
set_option maxRecDepth 100000 in
end
section
variable {κ:Type}[DecidableEq κ]
abbrev lh (kvs:oj (κ×V))(k:κ):om V:=(kvs.find? λkv=>decide (kv.1=k)).map (·.2)
abbrev mo (kvs:oj (κ×V))(k:κ)(v:V):oj (κ×V):=
 if(kvs.any λkv=>decide (kv.1=k))=v_ then kvs.map (λkv=>if kv.1=k then(kv.1,v) else kv) else kvs++ [(k,v)]
abbrev J1 (kvs:oj (κ×V))(k:κ):oj (κ×V):=kvs.filter λkv=>decide (kv.1≠k)
def qav {k:κ}:lh ([]:oj (κ×V)) k=none:=rfl
def QU {p:κ×V}{r:oj (κ×V)}{k:κ}(e:p.1=k):lh (p::r) k=u_ p.2:=by simp[lh,uS,e]
def QL {p:κ×V}{r:oj (κ×V)}{k:κ}(e:¬p.1=k):lh (p::r) k=lh r k:=by simp[lh,uS,e]
def xh (k:κ):∀kvs:oj (κ×V),(kvs.any λkv=>decide (kv.1=k))=(lh kvs k).isSome
 | []=>rfl|p::r=>by
  rw[UX];by_cases e:p.1=k
  .simp![QU e,ua e,Bool.true_or,Option.isSome_some]
  .rw[QL e,ub e,rQ];exact xh k r
def B7 (k j:κ)(y:V):∀kvs:oj (κ×V),lh (kvs.map λkv=>if kv.1=k then(kv.1,y) else kv) j=(lh kvs j).map λx=>if j=k then y else x
 | []=>rfl|p::r=>by
  let O:=B7 k j y r;rw[ur];by_cases h:p.1=k
  .rw[A6 h];by_cases e:p.1=j
   .rw[QU (p:=(p.1,y)) e,QU e,tR,A6 (e.symm.trans h)]
   .rw[QL (p:=(p.1,y)) e,QL e,O]
  .rw[A4 h];by_cases e:p.1=j
   .rw[QU (p:=p) e,QU e,tR,A4 (λz=>h (e.trans z))]
   .rw[QL (p:=p) e,QL e,O]
def so (k j:κ)(y:V):∀kvs:oj (κ×V),lh kvs k=U_->lh (kvs++ [(k,y)]) j=if j=k then u_ y else lh kvs j
 | [],_=>by
  by_cases e:k=j
  .rw[A6 e.symm];exact QU (p:=(k,y)) e
  .rw[A4 (λz=>e z.symm)];exact QL (p:=(k,y)) e
 |p::r,hn=>by
  rw[UA];let O:¬p.1=k:=λz=>by rw[QU z,0] at hn
  rw[QL O] at hn;let U:=so k j y r hn;by_cases e:p.1=j
  .rw[QU e,QU e,A4 (λz=>O (e.trans z))]
  .rw[QL e,QL e,U]
def zP (kvs:oj (κ×V))(k j:κ)(y:V):lh (mo kvs k y) j=if j=k then u_ y else lh kvs j:=by
 unfold mo;by_cases a:(kvs.any λkv=>decide (kv.1=k))=v_
 .rw[A6 a,B7];rw[xh] at a;by_cases e:j=k
  .erw[Option.isSome_iff_exists.mp a,x,O];rw[A6 e,e,O,tR,A6 rfl]
  .rw[A4 e];cases lh kvs j with|none=>rfl|some x=>rw[tR,A4 e]
 .rw[A4 a];refine so k j y kvs ?_;rw[xh] at a;cases q:lh kvs k with|none=>rfl|some x=>rw[q] at a;exact(a rfl).elim
def Yh (kvs:oj (κ×V))(k:κ)(v:V):↑(mo kvs k v)<=↑kvs+1:=by
 unfold mo;split
 .rw[uc];omega
 .rw[uE,uw,TC];omega
variable {kvs:oj (κ×V)}
def qao {k:κ}(v:V)(h:lh kvs k=U_):mo kvs k v=kvs++ [(k,v)]:=by
 unfold mo;rw[xh,h];exact A4 ()
def nY.isSome_eq {o:om V}{u:om o6}(r:nY o u):o.isSome=u.isSome:=by
 cases o with
 |none=>cases u with
  |none=>rfl|some _=>exact(show False from r).elim
 |some _=>cases u with
  |none=>exact(show False from r).elim|some _=>rfl
def nY.getD {o:om V}{u:om o6}{d:V}{d':o6}(r:nY o u)(rd:ii d d'):ii (o.getD d) (u.getD d'):=by
 cases o with
 |none=>cases u with
  |none=>exact rd|some _=>exact(show False from r).elim
 |some _=>cases u with
  |none=>exact(show False from r).elim|some _=>exact r
variable {vs:oj (κ×o6)}
def KV.val (r:KV kvs vs)(k:κ):nY (lh kvs k) (Hd vs k):=by
 unfold KV at r
 induction r with
 |nil=>exact Go| @cons p q ps qs h t ih=>
  erw[h,h1,h2];by_cases e:p.1=k
  .let O:q.1=k:=h1.symm.trans e;let b:Hd (q::qs) k=u_ q.2:=by simp[Hd,uS,O]
   rwa[QU e,b]
  .let O:¬q.1=k:=λz=>e (h1.trans z);let b:Hd (q::qs) k=Hd qs k:=by simp[Hd,uS,O]
   rw[QL e,b];exact ih
def KV.any (r:KV kvs vs)(k:κ):(kvs.any λkv=>decide (kv.1=k))=vs.any λkv=>decide (kv.1=k):=by
 unfold KV at r
 induction r with
 |nil=>rfl|cons h t O=>rw[UX,UX,O,h.1]
variable {y:V}{u:o6}
def KV.repl (r:KV kvs vs)(k:κ)(O:ii y u):
  KV (kvs.map λkv=>if kv.1=k then(kv.1,y) else kv) (vs.map λkv=>if kv.1=k then(kv.1,u) else kv):=by
 unfold KV at r⊢
 induction r with
 |nil=>exact .nil| @cons p q ps qs h t ih=>
  rw[ur,ur];refine .cons ?_ ih;erw[h,h1,h2];by_cases e:p.1=k
  .rw[A6 e,A6 (h1.symm.trans e)];exact[h1:O]
  .rw[A4 e,A4 (λz=>e (h1.trans z))];exact[h1:h2]
def KV.put (r:KV kvs vs)(k:κ)(O:ii y u):KV (mo kvs k y) (Hn vs k u):=by
 unfold mo Hn;rw[r.any k];by_cases e:(vs.any λkv=>decide (kv.1=k))=v_
 .rw[A6 e,A6 e];exact r.repl k O
 .rw[A4 e,A4 e];exact Paired.snoc r [1:O]
def KV.drop (r:KV kvs vs)(k:κ):KV (J1 kvs k) (without vs k):=by
 unfold KV at r⊢;unfold J1 without
 induction r with
 |nil=>exact .nil| @cons p q ps qs h t ih=>
  erw[h,h1,h2];rw[U8,U8];by_cases e:p.1=k
  .let a:¬decide (p.1≠k)=true:=by simp[e]
   let b:¬decide (q.1≠k)=true:=by simp[h1.symm.trans e]
   rw[A4 a,A4 b];exact ih
  .let O:¬q.1=k:=λz=>e (h1.trans z);let a:decide (p.1≠k)=true:=by simp[e]
   let b:decide (q.1≠k)=true:=by simp[O]
   rw[A6 a,A6 b];exact .cons [h1:h2] ih
def KV.keys (r:KV kvs vs):kvs.map (·.1)=vs.map (·.1):=by
 unfold KV at r
 induction r with
 |nil=>rfl|cons h t O=>rw[ur,ur,O,h.1]
def KV.length (r:KV kvs vs):↑kvs=↑vs:=Paired.length r
def C6 (kvs:oj (κ×V))(k:κ):↑(J1 kvs k)<=↑kvs:=U0 _ _
end
variable {w:og}{u:o6}
def Ar {P:o9}{k:Key}(r:ii (kV k) u):(Qc P w).is k u=true:=by
 cases k with
 |inl i=>obtain⟨t,e⟩:=(show∃t,u=hZ i t from r);subst e;exact BE P w i t|inr x=>obtain⟨t,e⟩:=(show∃t,u=G6 x t from r);subst e;exact wA P w x t
def As {P:o9}{w:og}:∀{ks:oj Key}{us:oj o6},im (ks.map kV) us->ItemsAre (Qc P w) ks us
 | [],_,r=>by rw[UR,0] at r;exact .nil|k::ks,_,r=>by
  rw[ur] at r;cases r with
  |cons h t=>exact .cons (Ar h) (As t)
nonrec abbrev KT (H:Hp):oj (oj Key×V)->oj (oj Key×o3×o6)->Prop:=Paired λp q=>p.1=q.1/\H q.2.1=u_ (.tup (p.1.map kV))/\ii p.2 q.2.2
variable {H:Hp}
def KT.val {kvs:oj (oj Key×V)}{xs:oj (oj Key×o3×o6)}(r:KT H kvs xs)(k:oj Key):nY (lh kvs k) ((GO xs k).map (·.2)):=by
 induction r with
 |nil=>exact Go| @cons p q ps qs h t ih=>
  erw[h,h1,_,h2];by_cases e:p.1=k
  .let O:q.1=k:=h1.symm.trans e;let b:GO (q::qs) k=u_ q.2:=by simp[GO,uS,O]
   rwa[QU e,b]
  .let O:¬q.1=k:=λz=>e (h1.trans z);let b:GO (q::qs) k=GO qs k:=by simp[GO,uS,O]
   rw[QL e,b];exact ih
variable {y:V}
def KT.repl {kvs:oj (oj Key×V)}{xs:oj (oj Key×o3×o6)}(r:KT H kvs xs)(k:oj Key)(O:ii y u):
  KT H (kvs.map λkv=>if kv.1=k then(kv.1,y) else kv) (xs.map (putAt k u)):=by
 induction r with
 |nil=>exact .nil| @cons p q ps qs h t ih=>
  rw[ur,ur];refine .cons ?_ ih;erw[h,h1,h2,h3];unfold putAt;by_cases e:p.1=k
  .rw[A6 e,A6 (h1.symm.trans e)];exact[h1:h2:O]
  .rw[A4 e,A4 (λz=>e (h1.trans z))];exact[h1:h2:h3]
variable {b:o3}
def KT.put {kvs:oj (oj Key×V)}{xs:oj (oj Key×o3×o6)}(r:KT H kvs xs)(k:oj Key)(U:H b=u_ (.tup (k.map kV)))(O:ii y u):
  KT H (mo kvs k y) (storedH xs k b u):=by
 let e:(kvs.any λkv=>decide (kv.1=k))=(GO xs k).isSome:=by
  rw[xh,(r.val k).isSome_eq,Ft]
 unfold mo storedH;rw[e];by_cases q:(GO xs k).isSome=v_
 .rw[A6 q,A6 q];exact r.repl k O
 .rw[A4 q,A4 q];exact Paired.snoc r [1:U:O]
variable {H':Hp}
def KT.keeps {kvs:oj (oj Key×V)}{xs:oj (oj Key×o3×o6)}(r:KT H kvs xs)(O:∀b ys,H b=u_ (¬ys)->H' b=u_ (¬ys)):KT H' kvs xs:=
 Paired.mapP r λ_ _ z=>[z.1:O _ _ z.2.1:z.2.2]
section
variable {P:o9}{w:og}{H:Hp}{h:o8}{a:o3}
def Ac4 {u:HO}(ok:HOk P w H h)(e:Rd H a u):QT P w H h a u:=e.ok ok
def zI {kvs:oj (Key×V)}(ok:HOk P w H h)(e:Rd H a (.dK kvs)):↑kvs<=Vw/\(a==VY)=Vt/\∃vs,KV kvs vs/\h.DictOf (Qc P w) a vs:=
 show QT P w H h a (.dK kvs) from Ac4 ok e
def Ad8 {kvs:oj (Key×V)}(ok:HOk P w H h)(e:H a=u_ (.dK kvs)):↑kvs<=Vw/\(a==VY)=Vt/\∃vs,KV kvs vs/\h.DictOf (Qc P w) a vs:=zI ok (.inl e)
def WI {ks:oj Key}(ok:HOk P w H h)(e:H a=u_ (.tup (ks.map kV))):(Ho (Qc P w)).is h ks a:=by
 obtain⟨_,its,r,o,h1,h2,n,h3⟩:=(show QT P w H h a (.tup (ks.map kV)) from ok a _ e)
 exact(o,its.toArray,n,h1,h2,h3,by simpa using As r)
def qaJ {kvs:oj (oj Key×V)}(ok:HOk P w H h)(e:Rd H a (.dT kvs)):↑kvs<=Vw/\(a==VY)=Vt/\
  ∃xs,KT H kvs xs/\h.DictOfH (Ho (Qc P w)) a xs:=by
 obtain⟨z,y,xs,r,o,es,ep,h1,h2,h3,h4,h5⟩:=(show QT P w H h a (.dT kvs) from Ac4 ok e)
 rw[_,z,y,xs,r,o,es,ep,h1,h2,h3,h4,λx O=>?_,h5];let all:∀{l:oj (oj Key×V)}{m:oj (oj Key×o3×o6)},KT H l m->∀x>m,(Ho (Qc P w)).is h x.1 x.2.1:=by
  intro l m q
  induction q with
  |nil=>intro x O;exact nomatch O| @cons p q ps qs hq t ih=>
   intro x O;rcases Ab.mp O with e|O
   .subst e;exact WI ok (by rw[<-hq.1];exact hq.2.1)
   .exact ih x O
 exact all r x O
def AfC {kvs:oj (oj Key×V)}(ok:HOk P w H h)(e:H a=u_ (.dT kvs)):↑kvs<=Vw/\(a==VY)=Vt/\
  ∃xs,KT H kvs xs/\h.DictOfH (Ho (Qc P w)) a xs:=qaJ ok (.inl e)
end
abbrev mW (H:Hp)(a:o3)(y:V)(r:om V):Prop:=
 (∃kvs k,Rd H a (.dK kvs)/\y=kV k/\r=lh kvs k)\/∃kvs k b,Rd H a (.dT kvs)/\y= .ref b/\H b=u_ (.tup (k.map kV))/\r=lh kvs k
abbrev DW (H:Hp)(a:o3)(y v:V)(H':Hp):Prop:=
 (∃kvs k,H a=u_ (.dK kvs)/\y=kV k/\↑kvs<Vw/\H'=upd H a (.dK (mo kvs k v)))\/
 ∃kvs k b,H a=u_ (.dT kvs)/\y= .ref b/\H b=u_ (.tup (k.map kV))/\↑kvs<Vw/\H'=upd H a (.dT (mo kvs k v))
def mW.k {H:Hp}{a:o3}{kvs:oj (Key×V)}{k:Key}(e:H a=u_ (.dK kvs)):mW H a (kV k) (lh kvs k):= .inl (kvs,k,.inl e,1,1)
def DW.k {H:Hp}{a:o3}{kvs:oj (Key×V)}{k:Key}{v:V}(e:H a=u_ (.dK kvs))(O:↑kvs<Vw):DW H a (kV k) v (upd H a (.dK (mo kvs k v))):= .inl (kvs,k,e,1,O,1)
section
variable {X:Cx}{oq:#[16]}{σ:St}{H:Hp}{s:o7}{a:o3}{y v:V}{u r:o6}{o:om V}{A:oh}{E:#[14]}
def Inv.big (I:#[I]):VY<#[0,s]:=by
 let h:VW<#[0,s]:=(I.mod.glob.keeps I.bk).lt;exact TB () h
def LS {Q:#[14]}(hu:A.units+1<VI)(I:#[I])(g:mW H a y (u_ v))(ry:ii y u)(h:∀U s',Inv X oq σ H s'->ii v U->Q U s'):
  Vu #[X,X] A (Gx (-a) u) Q E s:=by
 rcases g with⟨kvs,k,e,ey,l⟩|⟨kvs,k,b,e,ey,eb,l⟩
 .subst ey;erw[zI I.hok e,z,hd,vs,rel,dd];obtain⟨U,hw,O⟩:=nY.some_of (v:=v) (o:=Hd vs k) (by rw[l];exact rel.val k)
  exact Rc (Ar ry) dd.mapOf hw (h U _ (I.tok _) O)
 .subst ey;rw[show u=VB b from ry,0]
  erw[qaJ I.hok e,z,hd,xs,rel,dd];obtain⟨U,hw,O⟩:=nY.some_of (v:=v) (o:=(GO xs k).map (·.2)) (by rw[l];exact rel.val k)
  erw[Option.map_eq_some_iff.mp hw,p,hp,aa];refine wpAny_getItem_heap (Uj hu) (WI I.hok eb) dd hp ?_;rw[aa];exact h U _ (I.tok _) O
def AgQ {Q:#[14]}(hu:A.units+1<VI)(I:#[I])(g:mW H a y o)(U:ii y u)(h:∀s',Inv X oq σ H s'->Q (.bool o.isSome) s'):
  Vu #[X,X] A (VM .In u (-a)) Q E s:=by
 rcases g with⟨kvs,k,e,O,l⟩|⟨kvs,k,b,e,O,eb,l⟩
 .subst O;erw[zI I.hok e,z,hd,vs,rel,dd];refine Pw (Ar U) hd dd.mapOf ?_;rw[<-(rel.val k).isSome_eq,<-l];exact h _ (I.tok _)
 .subst O;rw[show u=VB b from U,0]
  erw[qaJ I.hok e,z,hd,xs,rel,dd];refine wpAny_in_heap (Uj hu) (WI I.hok eb) hd dd ?_;let q:=(rel.val k).isSome_eq;rw[Ft] at q;rw[<-q,<-l];exact h _ (I.tok _)
def AbU {Q:#[14]}(hu:A.units+1<VI)(I:#[I])(g:mW H a y o)(U:ii y u)(h:∀s',Inv X oq σ H s'->Q (.bool (!(o.isSome))) s'):
  Vu #[X,X] A (VM .NotIn u (-a)) Q E s:=by
 rcases g with⟨kvs,k,e,O,l⟩|⟨kvs,k,b,e,O,eb,l⟩
 .subst O;erw[zI I.hok e,z,hd,vs,rel,dd];refine pE (Ar U) hd dd.mapOf ?_;rw[<-(rel.val k).isSome_eq,<-l];exact h _ (I.tok _)
 .subst O;rw[show u=VB b from U,0]
  erw[qaJ I.hok e,z,hd,xs,rel,dd];refine wpAny_notIn_heap (Uj hu) (WI I.hok eb) hd dd ?_;let q:=(rel.val k).isSome_eq;rw[Ft] at q;rw[<-q,<-l];exact h _ (I.tok _)
variable {h':o8}{t':Nat}
def BQ {ob:HO}(I:#[I])(mu:Mut (H a))(O:Hz a s.heap h')(U:∃q,h'.get? a=u_ q)(new:QT X.prog X.w (upd H a ob) h' a ob)(ht:0<t':=by ac_rfl):
  Inv X oq σ (upd H a ob) {s with heap:=h',toks:=t'}:=
 I.write (x:=a) (e:=a) mu (.inl rfl) (λb q hb z=>(O.2 b hb).trans z) U new
def C7 {P:o9}{kvs:oj (Key×V)}{vs:oj (Key×o6)}(z:↑kvs<=Vw)(hd:(a==VY)=Vt)(rel:KV kvs vs)(dd:h'.DictOf (Qc P w) a vs):
  QT P w H' h' a (.dK kvs):=(z,hd,vs,rel,dd)
def LQ {Q:Unit->o7->Prop}(hu:A.units+1<VI)(I:#[I])(g:DW H a y v H')(ry:ii y u)(rv:ii v r)(h:∀s',Inv X oq σ H' s'->Q Gk s'):
  Vu #[X,X] A (FD (-a) u r) Q E s:=by
 rcases g with⟨kvs,k,e,ey,l,eH⟩|⟨kvs,k,b,e,ey,eb,l,eH⟩
 .subst ey eH;erw[Ad8 I.hok e,z,hd,vs,rel,dd];let hz:↑vs<=sizeLine:=by rwa[<-↑rel]
  let hl:↑(mo kvs k v)<=sizeLine:=by have:=Yh kvs k v;omega
  refine wpAny_setItem_pairs (hsz:=hz) (Ar ry) dd λh' O hs=>h _ ?_;let he:∃q,h'.get? a=u_ q:=let⟨q,_,_,U,_⟩:=O;[q:U];exact BQ I (by rw[e];exact Go) hs he (C7 hl hd (rel.put k rv) O)
 .subst ey eH;rw[show u=VB b from ry,0]
  erw[AfC I.hok e,z,hd,xs,rel,dd];let hz:↑xs<=sizeLine:=by rwa[<-Paired.length rel]
  let hl:↑(mo kvs k v)<=sizeLine:=by have:=Yh kvs k v;omega
  refine wpAny_setItem_heap (hsz:=hz) (Uj hu) (WI I.hok eb) dd λh' O hs=>h _ ?_;erw[O,q,es,ep,U,h2,h3,h4,_,h5];refine BQ I (by rw[e];exact Go) hs [q:U] (hl,hd,_,(rel.put k eb rv).keeps λc ys ec=>?_,q,es,ep,U,h2,h3,h4,h5)
  rw[qk (Afm ec e (λz=>nomatch z))];exact ec
end
section
variable {X:Cx}{oq:#[16]}{σ:St}{H:Hp}{s:o7}{a:o3}{kvs:oj (Key×V)}{k:Key}{u:o6}{A:oh}{E:#[14]}
def AfD {v:V}{more:oj o6}{Q:#[14]}(I:#[I])(e:H a=u_ (.dK kvs))(ry:ii (kV k) u)(l:lh kvs k=u_ v)(hm:more= []\/∃x,more= [x])
  (h:∀O s',Inv X oq σ (upd H a (.dK (J1 kvs k))) s'->ii v O->Q O s'):Vu #[X,X] A (call (.builtin "dict.pop") (.ref a::u::more)) Q E s:=by
 erw[Ad8 I.hok e,z,hd,vs,rel,dd];obtain⟨O,hw,aa⟩:=nY.some_of (v:=v) (o:=Hd vs k) (by rw[<-l];exact rel.val k)
 let hp:(keyPart u).isSome=true:=by
  cases k with
  |inl i=>obtain⟨t,q⟩:=(show∃t,u=hZ i t from ry);subst q;rfl|inr x=>obtain⟨t,q⟩:=(show∃t,u=G6 x t from ry);subst q;rfl
 let ha:argsOk "dict.pop" ⟨.ref a::u::more,[]⟩:=by
  rcases hm with q|⟨x,q⟩
  .subst q;exact PySem.F.args_dict_pop_2 _ _
  .subst q;exact PySem.F.args_dict_pop_3 _ _ _
 refine Vn PySem.F.slot_dict_pop dd.typeIs PySem.F.entry_dict_pop ha (meets_dict_pop_there (Qc X.prog X.w) a (Ar ry) more hm hp)
  (vs,O,dd,by rwa[<-↑rel],hw,λh' U hs=>h O _ ?_ aa)
 let he:∃q,h'.get? a=u_ q:=let⟨q,_,_,hq,_⟩:=U;[q:hq];exact BQ I (by rw[e];exact Go) hs he (C7 (uP (C6 kvs k) z) hd (rel.drop k) U)
def AfE {Q:#[14]}(I:#[I])(e:Rd H a (.dK kvs))(h:∀t s',Inv X oq σ H s'->Q (.int ↑kvs t) s'):Vu #[X,X] A (call (.builtin "len") [-a]) Q E s:=by
 erw[zI I.hok e,z,hd,vs,rel,dd];refine call_len_dict hd dd (by rw[<-↑rel];rw[uF] at z;omega) ?_
 rw[<-↑rel];exact h _ _ (I.tok _)
end
abbrev Agm (i:Expr):Prop:=∀ov iv,tm i Vt ov iv=Tl [ov,iv] (Gx ov iv)
def SQ {prog:o9}{w:og}{A:oh}{E:#[14]}{s:o7}{env:Env}{value slice:Expr}{pos:Pos}{T id:String}{Q:#[14]}
  (hl:HP (.type T) "__getitem__"=pure (u_ (.builtin id))) (hs:Agm slice)
  (h:Vu #[w,w] A (eval value env) (λo s₁=>Vu #[w,w] A (eval slice env) (λi O=>O.TypeIs o T/\Vu #[w,w] A (Gx o i) Q E O) E s₁) E s):
  Vu #[w,w] A (eval (.Subscript value slice pos) env) Q E s:=by
 refine Te (vz h (λo s₁ h₁=>vz h₁ (λi O U=>?_) λ_ _ x=>x) λ_ _ x=>x);erw[U,hT,U];unfold Tg;refine A8 ?_;rw[getitemInPython_of_ne hT.not_modules];refine A8 (FI hT hl ?_);let fin:Vu #[w,w] A (tm slice Vt o i) (λr s₃=>Vu #[w,w] A (letTemporaryGo value o r>>=λ_=>pure r) Q E s₃) E O:=by
  rw[hs o i];exact wpAny_operating (vz U (λr s₃ h₃=>A8 (wpAny_letTemporaryGo (uu h₃))) λ_ _ x=>x)
 first
  |exact uu (A8 fin)
  |exact A8 (uu (A8 fin))
  |exact A8 fin
variable {X:Cx}{oq:#[16]}{σ:St}{s:o7}{a:o3}
def BO {o:om V}(I:#[I])(g:mW H a y o):s.TypeIs (-a) "dict":=by
 rcases g with⟨kvs,k,e,_,_⟩|⟨kvs,k,b,e,_,_,_⟩
 .erw[zI I.hok e,_,_,vs,_,dd,<-dd.typeIs]
 .erw[qaJ I.hok e,_,_,xs,_,dd,<-dd.typeIs]
def BP {o:om V}(I:#[I])(g:mW H a y o):
  ∀b,VB a= .ref b->∃ob,s.heap.get? b=u_ ob/\ob.dict=none:=λb q=>by
 rw[q,0];rcases g with⟨kvs,k,e,_,_⟩|⟨kvs,k,b,e,_,_,_⟩
 .erw[zI I.hok e,_,_,vs,_,ob,_,_,h1,h2,_,<-[ob:h1:h2.2.1]]
 .erw[qaJ I.hok e,_,_,xs,_,ob,_,_,h1,h2,_,<-[ob:h1:h2.2.1]]
inductive Sz (Q:VK)(x:V)(y:V)(H2:Hp):Prop
 |mk (a:_)(v:_)(_:x=-a)(_:mW H2 a y (u_ v))(_:Q v H2)
abbrev Ae0 (td ty:TE):TE:=λσ H Q=>td σ H λx H1=>ty σ H1 λy H2=>Sz Q x y H2
inductive AfQ (Q:VK)(y:V)(x:V)(H2:Hp):Prop
 |mk (a:_)(o:_)(_:x=-a)(_:mW H2 a y o)(_:Q (.bl o.isSome) H2)
abbrev Agt (ty td:TE):TE:=λσ H Q=>ty σ H λy H1=>td σ H1 λx H2=>AfQ Q y x H2
inductive Oj (Q:VK)(y:V)(x:V)(H2:Hp):Prop
 |mk (a:_)(o:_)(_:x=-a)(_:mW H2 a y o)(_:Q (.bl (!(o.isSome))) H2)
abbrev SO (ty td:TE):TE:=λσ H Q=>ty σ H λy H1=>td σ H1 λx H2=>Oj Q y x H2
inductive Aey (D:mV)(σ:St)(v:V)(x:V)(y:V)(H3:Hp):Prop
 |mk (a:_)(H4:_)(_:x=-a)(_:DW H3 a y v H4)(_:D.nx σ H4)
abbrev Ae7 (td ty tv:TE):TS:=λD σ H=>tv σ H λv H1=>td σ H1 λx H2=>ty σ H2 λy H3=>Aey D σ v x y H3
section
variable {X:Cx}{o i e value:Expr}{pos pos' tpos:Pos}{td ty tv:TE}
def Qq (hu:X.A.units+1<VI)(ho:PE X o td)(hi:PE X i ty)(hs:Agm i):PE X (.Subscript o i pos) (Ae0 td ty):=by
 rw[2,Q,I,h];refine SQ PySem.F.slot_dict_getitem.lookup hs (thn (ho oq s σ H _ I h) λu s1 ⟨x,H1,I1,rx,q1⟩=>thn (hi oq s1 σ H1 _ I1 q1) λiv s2 zq=>?_);erw[zq,y,H2,U,ry,a,v,ex,g,q2];subst ex;obtain rfl:u=VB a:=rx;exact[BO U g:LS hu U g ry λw' s3 I3 O=>(v,H2,I3,O,q2)]
def kU (O:X.A.units+1<VI)(hi:PE X i ty)(U:PE X o td):PC X .In i o (Agt ty td):=by
 rw[2,Q,I,h];refine thn (hi oq s σ H _ I h) λiv s1 ⟨y,H1,I1,ry,q1⟩=>thn (U oq s1 σ H1 _ I1 q1) λu s2 zq=>?_;erw[zq,x,H2,I2,rx,a,ov,ex,g,q2];subst ex;obtain rfl:u=VB a:=rx;exact AgQ O I2 g ry λs3 I3=>(.bl ov.isSome,H2,I3,1,q2)
def JU (O:X.A.units+1<VI)(hi:PE X i ty)(U:PE X o td):PC X .NotIn i o (SO ty td):=by
 rw[2,Q,I,h];refine thn (hi oq s σ H _ I h) λiv s1 ⟨y,H1,I1,ry,q1⟩=>thn (U oq s1 σ H1 _ I1 q1) λu s2 zq=>?_;erw[zq,x,H2,I2,rx,a,ov,ex,g,q2];subst ex;obtain rfl:u=VB a:=rx;exact AbU O I2 g ry λs3 I3=>(.bl (!(ov.isSome)),H2,I3,1,q2)
def jj (O:X.A.units+1<VI)(U:PE X o td)(hi:PE X i ty)(hv:PE X value tv)(hs:Ht value (u_ (.Subscript o i pos')) pos.line X.env=pure Vt):
  PS X (.Assign [.Subscript o i pos'] value pos) (Ae7 td ty tv):=by
 rw[2,D,I,h];refine wpAny_Assign_Subscript (thn (hv oq s σ H _ I h) λr s1 ⟨v,H1,I1,rv,q1⟩=>thn (U oq s1 σ H1 _ I1 q1) λu s2 ⟨x,H2,I2,rx,q2⟩=>thn (hi oq s2 σ H2 _ I2 q2) λiv s3 zq=>?_) hs;erw[zq,y,H3,I3,ry,a,H4,ex,g,q3];subst ex;obtain rfl:u=VB a:=rx;exact LQ O I3 g ry rv λs4 I4=>(σ,H4,I4,q3)
end
def NZ {P:o9}(h:o8)(O:VY<h.objs.size):QT P w H (h.push {cls:= .type "dict",data:= .dict #[]}) h.objs.size (.dK []):=
 (uN _,beq_eq_false_iff_ne.mpr (Uv (uM O)),[],.nil,pG h)
abbrev AcF:TE:=λ_ H Q=>∀p,H p=U_->Q (-p) (upd H p (.dK []))
section
variable {X:Cx}{pos:Pos}
def xn:PE X (.Dict [] [] pos) AcF:=λoq s σ H Q I h=>
 wpAny_Dict_empty (.ref #[0,s],_,I.laid (a:=#[0,s]) (o:= .dK []) (t':=s.toks) (λ_ _ q=>ug _ q) (Vv _) (NZ s.heap I.big),1,h _ (I.hok.fresh (Vv _)))
end
structure M1 (X:Cx)(o:Expr)(m:Str)(apos:Pos)(e:Expr)(cpos:Pos):Prop where
 base:GM o m X.env (eval o X.env)=eval o X.env
 few:((VL cpos (VA [e] X.env)).all (λx=> !(x).1)&&(He cpos (Hg [] X.env)).all (λx=>x.1.isSome)
  &&decide (↑([e]:oj Expr)+↑([]:oj GV)+(if([]:oj GV).isEmpty then 0 else 1)<30))=v_
 line:(apos.endLine==cpos.line)=v_
 trees:VL cpos (VA [e] X.env)= [(Vt,eval e X.env)]
structure M2 (X:Cx)(o:Expr)(m:Str)(apos:Pos)(e f:Expr)(cpos:Pos):Prop where
 base:GM o m X.env (eval o X.env)=eval o X.env
 few:((VL cpos (VA [e,f] X.env)).all (λx=> !(x).1)&&(He cpos (Hg [] X.env)).all (λx=>x.1.isSome)
  &&decide (↑([e,f]:oj Expr)+↑([]:oj GV)+(if([]:oj GV).isEmpty then 0 else 1)<30))=v_
 line:(apos.endLine==cpos.line)=v_
 trees:VL cpos (VA [e,f] X.env)= [(Vt,eval e X.env),(Vt,eval f X.env)]
abbrev IsD (H:Hp)(a:o3):Prop:=(∃kvs,Rd H a (.dK kvs))\/∃kvs,Rd H a (.dT kvs)
def Ld (I:#[I])(d:IsD H a):
  s.TypeIs (-a) "dict"/\(∀b,VB a= .ref b->∃ob,s.heap.get? b=u_ ob/\ob.dict=U_)/\(a==VY)=false:=by
 rcases d with⟨kvs,e⟩|⟨kvs,e⟩
 .erw[zI I.hok e,_,hd,vs,_,dd];rw[_,dd.typeIs,λb q=>?_,hd];rw[q,0];erw[dd,ob,_,_,h1,h2,_,<-[ob:h1:h2.2.1]]
 .erw[qaJ I.hok e,_,hd,xs,_,dd];rw[_,dd.typeIs,λb q=>?_,hd];rw[q,0];erw[dd,ob,_,_,h1,h2,_,<-[ob:h1:h2.2.1]]
section
variable {X:Cx}{oq:#[16]}{σ:St}{H:Hp}{s:o7}{a:o3}{y d:V}{u r:o6}{o:om V}{A:oh}{E:#[14]}
def Aea {Q:#[14]}(hu:A.units+1<VI)(I:#[I])(g:mW H a y o)(U:ii y u)(h:∀w' s',Inv X oq σ H s'->ii (o.getD .non) w'->Q w' s'):
  Vu #[X,X] A (call (.builtin "dict.get") [-a,u]) Q E s:=by
 rcases g with⟨kvs,k,e,O,l⟩|⟨kvs,k,b,e,O,eb,l⟩
 .subst O;erw[zI I.hok e,z,hd,vs,rel,dd];refine Vn U1 dd.typeIs UD (PySem.F.args_dict_get_2 _ _) (meets_dict_get (Qc X.prog X.w) a (Ar U) hd) [_:dd.mapOf:h _ _ (I.tok _) ?_];rw[l];exact(rel.val k).getD rfl
 .subst O;rw[show u=VB b from U,0]
  erw[qaJ I.hok e,z,hd,xs,rel,dd];refine Vn U1 dd.typeIs UD (PySem.F.args_dict_get_2 _ _) (meetsH_dict_get (Ho (Qc X.prog X.w)) a b hd) (Uj hu,k,xs,WI I.hok eb,dd,h _ _ (I.tok _) ?_);rw[l];exact(rel.val k).getD rfl
def Ad9 {Q:#[14]}(hu:A.units+1<VI)(I:#[I])(g:mW H a y o)(U:ii y u)(rd:ii d r)(h:∀w' s',Inv X oq σ H s'->ii (o.getD d) w'->Q w' s'):
  Vu #[X,X] A (call (.builtin "dict.get") [-a,u,r]) Q E s:=by
 rcases g with⟨kvs,k,e,O,l⟩|⟨kvs,k,b,e,O,eb,l⟩
 .subst O;erw[zI I.hok e,z,hd,vs,rel,dd];refine Vn U1 dd.typeIs UD (PySem.F.args_dict_get_3 _ _ _) (meets_dict_get_default (Qc X.prog X.w) a (Ar U) hd r) [_:dd.mapOf:h _ _ (I.tok _) ?_];rw[l];exact(rel.val k).getD rd
 .subst O;rw[show u=VB b from U,0]
  erw[qaJ I.hok e,z,hd,xs,rel,dd];refine Vn U1 dd.typeIs UD (PySem.F.args_dict_get_3 _ _ _) (meetsH_dict_get_default (Ho (Qc X.prog X.w)) a b hd r) (Uj hu,k,xs,WI I.hok eb,dd,h _ _ (I.tok _) ?_);rw[l];exact(rel.val k).getD rd
end
inductive Ace (ty:TE)(σ:St)(Q:VK)(x:V)(H1:Hp):Prop
 |mk (a:_)(_:x=-a)(_:IsD H1 a)(_:ty σ H1 λy H2=>∃o,mW H2 a y o/\Q (o.getD .non) H2)
abbrev AcH (td ty:TE):TE:=λσ H Q=>td σ H λx H1=>Ace ty σ Q x H1
inductive Acd (ty tx:TE)(σ:St)(Q:VK)(x:V)(H1:Hp):Prop
 |mk (a:_)(_:x=-a)(_:IsD H1 a)(_:ty σ H1 λy H2=>tx σ H2 λz H3=>∃o,mW H3 a y o/\Q (o.getD z) H3)
abbrev AcG (td ty tx:TE):TE:=λσ H Q=>td σ H λx H1=>Acd ty tx σ Q x H1
inductive Acc (ty:TE)(σ:St)(Q:VK)(x:V)(H1:Hp):Prop
 |mk (a:_)(_:x=-a)(_:IsD H1 a)(_:ty σ H1 λy H2=>∃kvs k v,H2 a=u_ (.dK kvs)/\y=kV k/\lh kvs k=u_ v/\Q v (upd H2 a (.dK (J1 kvs k))))
abbrev AcE (td ty:TE):TE:=λσ H Q=>td σ H λx H1=>Acc ty σ Q x H1
section
variable {X:Cx}{o e f:Expr}{apos cpos:Pos}{td ty tx:TE}
def Cs (hu:X.A.units+1<VI)(ho:PE X o td)(he:PE X e ty)(m:M1 X o "get" apos e cpos):PE X (.Call (.Attribute o "get" apos) [e] [] cpos) (AcH td ty):=by
 rw[2,Q,I,h];refine FV m.base m.few m.line Uw U1 PySem.F.type_dict_get (thn (ho oq s σ H _ I h) λu s1 zq=>?_);erw[zq,x,H1,U,rx,a,ex,d,q1];subst ex;obtain rfl:u=VB a:=rx;erw[Ld U d,t1,t2,_];rw[_,t1,t2];rw[m.trees];refine vP rfl (Ur (vG (thn (he oq s1 σ H1 _ U q1) λiv s2 ⟨y,H2,I2,ry,ov,g,q2⟩=>Ub ?_)));exact Aea hu I2 g ry λw' s3 I3 O=>(_,H2,I3,O,q2)
def Cr (hu:X.A.units+1<VI)(ho:PE X o td)(he:PE X e ty)(hf:PE X f tx)(m:M2 X o "get" apos e f cpos):PE X (.Call (.Attribute o "get" apos) [e,f] [] cpos) (AcG td ty tx):=by
 rw[2,Q,I,h];refine FV m.base m.few m.line Uw U1 PySem.F.type_dict_get (thn (ho oq s σ H _ I h) λu s1 zq=>?_);erw[zq,x,H1,U,rx,a,ex,d,q1];subst ex;obtain rfl:u=VB a:=rx;erw[Ld U d,t1,t2,_];rw[_,t1,t2];rw[m.trees];refine vP rfl (Ur (vG (thn (he oq s1 σ H1 _ U q1) λiv s2 ⟨y,H2,I2,ry,q2⟩=>
  vG (thn (hf oq s2 σ H2 _ I2 q2) λfv s3 ⟨z,H3,I3,rz,ov,g,q3⟩=>Ub ?_))))
 exact Ad9 hu I3 g ry rz λw' s4 I4 O=>(_,H3,I4,O,q3)
def MX (ho:PE X o td)(he:PE X e ty)(m:M1 X o "pop" apos e cpos):PE X (.Call (.Attribute o "pop" apos) [e] [] cpos) (AcE td ty):=by
 rw[2,Q,I,h];refine FV m.base m.few m.line Uw PySem.F.slot_dict_pop PySem.F.type_dict_pop (thn (ho oq s σ H _ I h) λu s1 zq=>?_);erw[zq,x,H1,U,rx,a,ex,d,q1];subst ex;obtain rfl:u=VB a:=rx;erw[Ld U d,t1,t2,_];rw[_,t1,t2];rw[m.trees];refine vP rfl (Ur (vG (thn (he oq s1 σ H1 _ U q1) λiv s2 ⟨y,H2,I2,ry,kvs,k,v,ea,ey,l,q2⟩=>Ub ?_)));subst ey;exact AfD I2 ea ry l (.inl rfl) λw' s3 I3 O=>(v,_,I3,O,q2)
end
end L2
namespace Att
open PySem PySem.W PySem.Calls PyProof.Rows
variable {h:o8}
def wU {P:Tc}:∀(ns:oj Int) (vs:oj o6),WellAll P h vs (ns.map WData.int)->Hk vs ns:=by
 intro ns
 induction ns with
 |nil=>
  intro vs w;rw[UR,0] at w;exact .nil
 |cons n ns O=>
  intro vs w;rw[ur] at w;cases w with
  |cons a b=>
   rw[a,0];exact .cons _ _ (O _ b)
def Ev {l:OpenLaw}{n:Nat}(hn:l.most=u_ n){P:Tc}{h:o8}{args:oj WData}{O:oj o6}
  (U:l.row.toRowW.claim.pre args=v_) (ad:WellAll P h O args):
  ∃a vs ns,O= [VB a]/\args= [WData.list (ns.map WData.int)]/\h.get? a=u_ {cls:= .type "list",data:= .seq vs.toArray}/\Hk vs ns/\↑ns<=n:=by
 let ae:WShape.hasAll [] args [.list .int]=true:=(pre_splitW U).1;let hc:l.pre.holds [] {args:=args}=true:=(pre_splitW U).2;erw[hasAllW_cons ae,d,r,rfl,h1,h2];obtain rfl:=hasAllW_nil h2;erw[hasW_list h1,xs,rfl,h3];erw[items_int h3,ns,rfl];let aa:↑ns<=n:=by
  unfold OpenLaw.pre at hc;let h4:(WTm.not (.lt (.lit (.int (n:Int))) (.len (.arg 0)))).holds [] {args:= [.list (ns.map .int)]}=true:=by
   let h4:=(holds_andW hc).1;rwa[hn] at h4
  let h5:=condW_of h4 (w_not (w_lt w_lit (w_len_list (w_arg rfl))));rw[uc] at h5;refine Nat.le_of_not_lt λq=>?_;let q':(n:Int)<((↑ns:Nat):Int):=by omega
  first
   |(rw[ua q'] at h5;exact A9 h5 ())
   |(simp at h5;omega)
 cases ad with
 |cons w1 w2=>
  rw[w2,0];cases w1 with
  |list ho ac=>exact(_,_,ns,1,1,ho,wU ns _ ac,aa)
def EK (l:OpenLaw)(args:oj WData):l.row.toRowW.claim.post args (.bool v_) args=true:=
 postW_of (r:=l.row.toRowW) (X:=(v_==v_))
  (show WShape.has [] (.bool v_) .bool=v_ by first|rfl|decide|simp[WShape.has,WShape.arms,WShape.armsAll])
  (show(WTm.eq .res (.lit (.bool v_))).value [] {args:=args,res:=u_ (.bool v_),after:=args}=u_ (.bool (v_==v_)) from w_eq_bool (w_res rfl) w_lit) rfl
def attach_call {l:OpenLaw}{n:Nat}{q:o9}{O:oj Str}{XP:(Str->om o6)->o8->Prop}{YP:og->o8->Prop}{d:DefRec}
  (hn:l.most=u_ n) (ae:d.params.defaults= [])
  (call:∀(w:og) (s₀ U:o7) (mg mb:Str->om o6) (fa:o3) (o:Obj) (pm cd doc:o6) (a:o3) (vs:oj o6) (ns:oj Int),
   Ground q O [] XP w s₀ mg mb U.heap->YP w U.heap->
   U.heap.get? fa=u_ o->o.data= .func (docDef d.name d.params d.body d.scope pm cd doc)->U.heap.CodeRec cd d.name->mg d.name=u_ (-fa)->
   U.heap.get? a=u_ {cls:= .type "list",data:= .seq vs.toArray}->Hk vs ns->↑ns<=n->U.gens= #[]->
   G9 (VC l.prog w) GX (.call (-fa) [[-a]:[]]) (λr s'=>r= .ok (.ret (.bool v_))/\OldK U.heap s'.heap/\s'.os=U.os/\GE s'.gens) U):
  WalkO q O XP YP l.row.toRowW d [] (λf vs=>PySem.call f vs):=by
 intro w s₀ U mg mb G Y fa o pm cd doc dV kV ho hd af hD ag hg args ah as hpre hlay hrd hwl hlo;obtain rfl:dV= .none:=Dflts.none hD ae;obtain rfl:kV= .none:=Dflts.noKw hD;erw[Ev hn hpre hwl,a,vs,ns,rfl,rfl,ac,aa,ad];refine enter_call (tF (call w s₀ U mg mb fa o pm cd doc a vs ns G Y ho (fd_plain hd) af ag ac aa ad hg) λr s' hq=>?_);erw[hq,rfl,h2,h3,h4,<-(.inl (.bool v_,.bool v_,[],1,λ_=>rfl,.bool v_,EK l _,λ_=>[Fy:λ_ hm=>(nomatch hm)]),h2,h3,h4)]
end Att
namespace L2
open PySem PySem.Spec PyProof.Rows
def sj:∀{vs:oj o6}{ns:oj Int},Hk vs ns->im (ns.map V.int) vs
 |_,_,.nil=> .nil|_,_,.cons n t h=> .cons [t:1] (sj h)
abbrev AeI (H:Hp):Prop:=∀b,H b=U_\/∃o xs,H b=u_ (.frz o (.lst xs))
def NH {P:o9}{w:og}{K:o0}{mg mb:Str->om o6}{CX:CXT}{k:Nat}{fa a:o3}{fd:Vy}{x:Str}{sp:Sp}{O:o7}{vs:oj o6}{ns:oj Int}
  (KX:K.In O.heap) (ae:O.heap.Ns VW mg) (hb:O.heap.Ns Fv mb) (am:∀x:Str,x≠"__name__"->mb x=GH x) (af:O.heap.NoLimit) (hg:O.gens= #[])
  (ha:O.heap.get? a=u_ {cls:= .type "list",data:= .seq vs.toArray}) (hi:Hk vs ns) (hl:↑ns<=Vw) (hr:mP k GX)
  (F:∀base:o8,K.In base->base.Ns VW mg->FnOk P w K mg base CX k fa fd [x] sp) (ad:∀(s:o7) (u:o6),Hu s fd [[u]:[]] [(x,u)])
  (ag:fd.scope.names.lookup x=u_ .local) (ao:∀H:Hp,AeI H->SqL K H a (ns.map V.int)->sp [-a] H (λv _=>v= .bl v_) λ_ _ _=>False)
  (ap:∀H e s',CX [] H O (λ_ _ _=>False) e s'->False):
  G9 (VC P w) GX (.call (-fa) [[-a]:[]]) (λr s'=>r= .ok (.ret (.bool v_))/\OldK O.heap s'.heap/\s'.os=O.os/\GE s'.gens) O:=by
 let rv:=sj hi;let ah:=↑hi;let ac:∀H:Hp,AeI H->SqL K H a (ns.map V.int)->HOk P w H O.heap->(∀b,H b≠U_->b=a)->(H a≠U_->K.lookup a=U_)->
   G9 (VC P w) GX (.call (-fa) [[-a]:[]]) (λr s'=>r= .ok (.ret (.bool v_))/\OldK O.heap s'.heap/\s'.os=O.os/\GE s'.gens) O:=by
  intro H hO hS hok hA hK;let U:∀{b:o3}{o:Obj},O.heap.get? b=u_ o->H b=U_->(NR O.heap H).get? b=u_ o:=λe n=>NQ e n;let aq:∀{b:o3}{o:Obj}{es:Array HM}{ep:Nat},O.heap.get? b=u_ o->o.data= .dict es ep->H b=none:=λ{b o es ep} e d=>by
   cases q:H b with
   |none=>rfl|some u=>
    let e':b=a:=hA b (by rw[q];simp)
    subst e';rw[ha,0] at e;let d':TW vs.toArray _=Data.dict es ep:=d;rw[d',0]
  let aa:∀{b:o3}{m:Str->om o6},O.heap.Ns b m->(NR O.heap H).Ns b m:=λ{b m} ⟨o,es,ep,e,d,r⟩=>(o,es,ep,U e (aq e d),d,r);let ak:K.In (NR O.heap H):=λb o e=>U (KX b o e) (by
   cases q:H b with
   |none=>rfl|some u=>
    let e':b=a:=hA b (by rw[q];simp)
    subst e';rw[hK (by rw[q];simp),0] at e)
  let hM:Mod K mg (NR O.heap H):=(ak,aa ae,[mb:aa hb:am],let⟨mc,h1,h2⟩:=af;[mc:aa h1:h2]);let e0:Aci P w K mg (NR O.heap H) GX [] O H:=(1,hM,λb o e=>Abk e,tS (Lh _ _),trivial,λb hb=>A9 (show b>([]:oj o3) from hb) (by simp),hok,.of_eq hg)
  refine tF ((F _ ak (aa ae)).run GX [] O H [[-a]:[]] [-a] [-a] _ _ hr e0 (ad O (-a)) (.cons rfl .nil) (ao H hO hS) (.inr [_:0:ag])) λr s' h=>?_;cases r with
  |error e=>exact(ap H e s' h).elim|ok fl=>
   cases fl with
   |next=>exact V_ h|brk=>exact V_ h|cont=>exact V_ h|ret u=>
    erw[h,v,H',os,bare,htk,un,al,r',q];let q':v= .bl true:=q;subst q';obtain rfl:u=T6 true:=r';rw[1,OldK.of_keep λb o e=>?_,os,bare];cases q:H b with
    |none=>exact un.keep b o e q (by intro z;exact A9 (show b>([]:oj o3) from z) (by simp)) (by simp)|some u=>
     rcases hO b with z|⟨ob,xs,z⟩
     .rw[q,0] at z
     .have z2:=un.frzs b ob _ z;erw[hok b _ z,e1,_];erw[al b _ z2,e2,_];rw[e,0] at e1;exact e2
 cases hk:K.lookup a with
 |some o=>
  let e:=KX a o hk;rw[ha,0] at e;refine ac (λ_=>U_) (λ_=> .inl rfl) (.inr (_,vs.toArray,_,hk,1,1,1,by rwa[uz,ah],by simpa using rv)) (λb u z=>by have z':(U_:om HO)=u_ u:=z;rw[z',0]) (λb z=>A9 rfl z) λz=>A9 rfl z
 |none=>
  refine ac (λb=>if b=a then u_ (.frz {cls:= .type "list",data:= .seq vs.toArray} (.lst (ns.map V.int))) else U_) (λb=>?_) (.inl (.inr [{cls:= .type "list",data:= .seq vs.toArray}:A6 rfl])) (λb u z=>?_) (λb z=>?_) λ_=>hk
  .by_cases hb:b=a
   .exact .inr [_:_:A6 hb]
   .exact .inl (A4 hb)
  .by_cases hb:b=a
   .let z':=(A6 hb).symm.trans z;rw[z',0];subst hb;exact(ha,by rwa[uc],vs,_,rv,ha)
   .let z':=(A4 hb).symm.trans z;rw[z',0]
  .by_cases hb:b=a
   .exact hb
   .exact A9 (A4 hb) z
nonrec abbrev KOf {K:o0}{h:o8}(_:K.In h):o0:=K
def SF {l:PySem.W.OpenLaw}{n k:Nat}{q:o9}{U:oj Str}{XP:(Str->om o6)->o8->Prop}{YP:og->o8->Prop}{d:DefRec}{K:Tc->o0}{CX:og->CXT}{sp:og->Sp}{x:Str}
  (hn:l.most=u_ n) (ae:n<=Vw) (af:d.params.defaults= []) (hr:mP k GX)
  (hY:∀(w:og) (h:o8),YP w h->(K w.params).In h)
  (F:∀(w:og) (mg:Str->om o6) (fa:o3) (h:o8),(K w.params).In h->h.Ns VW mg->mg d.name=u_ (-fa)->
   ∃fd:Vy,(∀(s:o7) (u:o6),Hu s fd [[u]:[]] [(x,u)])/\fd.scope.names.lookup x=u_ .local/\
    ∀base:o8,(K w.params).In base->base.Ns VW mg->FnOk l.prog w (K w.params) mg base (CX w) k fa fd [x] (sp w))
  (ag:∀(w:og) (H:Hp) (a:o3) (ns:oj Int),↑ns<=n->AeI H->SqL (K w.params) H a (ns.map V.int)->sp w [-a] H (λv _=>v= .bl v_) λ_ _ _=>False)
  (ah:∀(w:og) (H:Hp) (s:o7) (e:o6) (s':o7),CX w [] H s (λ_ _ _=>False) e s'->False):
  PySem.W.WalkO q U XP YP l.row.toRowW d [] (λf vs=>PySem.call f vs):=by
 refine Att.attach_call hn af λw s₀ s₁ mg mb fa o pm cd doc a vs ns G Y ho hd al ak ac aa O hg=>?_;let KX:=hY w _ Y;erw[F w mg fa _ KX G.T.g ak,fd,hb,ad,hF,<-NH KX G.T.g G.T.b G.T.builtins G.T.nolimit hg ac aa (uP O ae) hr hF hb ad (λH hO hS=>ag w H a ns O hO hS) λH e s'=>ah w H s₁ e s']
def Mm {l:PySem.W.OpenLaw}{n k:Nat}{q:o9}{O:oj Str}{XP:(Str->om o6)->o8->Prop}{YP:og->o8->Prop}{d:DefRec}{K:Tc->o0}{CX:CXT}{sp:o0->Sp}{x:Str}
  (hn:l.most=u_ n) (U:n<=Vw) (aa:d.params.defaults= []) (hr:mP k GX)
  (hY:∀(w:og) (h:o8),YP w h->(K w.params).In h)
  (F:∀(w:og) (mg:Str->om o6) (fa:o3) (h:o8),(K w.params).In h->h.Ns VW mg->mg d.name=u_ (-fa)->
   ∃fd:Vy,(∀(s:o7) (u:o6),Hu s fd [[u]:[]] [(x,u)])/\fd.scope.names.lookup x=u_ .local/\
    ∀base:o8,(K w.params).In base->base.Ns VW mg->FnOk l.prog w (K w.params) mg base CX k fa fd [x] (sp (K w.params)))
  (ac:∀(K:o0) (H:Hp) (a:o3) (ns:oj Int),↑ns<=n->AeI H->SqL K H a (ns.map V.int)->sp K [-a] H (λv _=>v= .bl v_) λ_ _ _=>False)
  (ad:∀(H:Hp) (s:o7) (e:o6) (s':o7),CX [] H s (λ_ _ _=>False) e s'->False):
  PySem.W.WalkO q O XP YP l.row.toRowW d [] (λf vs=>PySem.call f vs):=
 SF (K:=K) (CX:=λ_=>CX) (sp:=λw=>sp (K w.params)) hn U aa hr hY F (λw H a ns h1 h2 h3=>ac (K w.params) H a ns h1 h2 h3) λ_ H s e s'=>ad H s e s'
abbrev Qm (s:Stmt)(j:Nat):Stmt:=match s with
 | .ClassDef _ _ _ body _ _ _ _ _ _ _=>body.getD j (.Pass ((0),(0),(0),(0)))|_=> .Pass ((0),(0),(0),(0))
abbrev Y1 (s:Stmt):Arguments:=match s with
 | .FunctionDef _ a _ _ _ _ _ _ _ _=>a|_=>{posonlyargs:= [],args:= [],vararg:=U_,kwonlyargs:= [],kw_defaults:= [],kwarg:=U_,defaults:= []}
abbrev Ya (s:Stmt):oj Stmt:=match s with
 | .FunctionDef _ _ b _ _ _ _ _ _ _=>b|_=> []
abbrev ql (s:Stmt):Scope:=match s with
 | .FunctionDef _ _ _ _ _ _ sc _ _ _=>sc|_=>{kind:= .function,names:= [],isGenerator:=Vt,isCoroutine:=Vt}
nonrec abbrev CX0:CXT:=λ_ _ _ _ _ _=>False
nonrec abbrev E0:XK:=λ_ _ _=>False
variable {X:Cx}
def qG:zf CX0 X E0:=λ_ _ _ _ _ _ _ h=>h.elim
structure Fun (K:o0)(x qual:Str)(st:Stmt)(f:o3)(fd:Vy):Prop where
 ex:∃(oc:o6) (od:om o3) (kV doc pm:o6) (an:om o3) (cdv ct:o6) (osl:Array (om o6)),
  fd=PySem.W.fnOf x qual (Y1 st) (Ya st) (ql st) .none kV doc pm an cdv ct/\K.lookup f=u_ (oc,od,.func fd,osl)/\PySem.W.codeIn K cdv qual=v_
 kp:PySem.W.keepIn K (-f)=v_
section
variable {P:o9}{w:og}{K:o0}{mg:Str->om o6}{base:o8}
def Fun.ok {x qual:Str}{st:Stmt}{f:o3}{fd:Vy}{N ps:oj Str}{k:Nat}{sp:Sp}(F:Fun K x qual st f fd)(S:qv N ps (ql st))(len:∀vs H Q E,sp vs H Q E->↑vs=↑ps)
  (O:∀(cdv:o6) (A:oh) (outer:oj Env) (s:o7) (H:Hp) (vs:oj V) (Q:VK) (E:XK),mP k (A.deeper (VD qual (ql st) #[0,s] f cdv))->sp vs H Q E->
   ∃t,PSs (cxOf CX0 P w K mg base N qual (ql st) f cdv A outer s H E).nox (Ya st) t/\t {nx:=λ_ H'=>Q .non H',rt:=Q} (qaj N vs) H):FnOk P w K mg base CX0 (k+1) f fd ps sp:=by
 erw[F.ex,oc,od,kV,doc,pm,an,cdv,ct,osl,rfl,lk,U];refine AdX lk U S len λA outer s H vs Q E hr aa=>?_;erw[O cdv A outer s H vs Q E hr aa,t,h,q,<-[t:h.nox:q]]
def Fun.binds {x qual:Str}{st:Stmt}{f:o3}{fd:Vy}{ps:oj Str}(F:Fun K x qual st f fd)
  (h:∀(kV doc pm:o6) (an:om o3) (cdv ct:o6) (us:oj o6),↑us=↑ps->GZ (PySem.W.fnOf x qual (Y1 st) (Ya st) (ql st) .none kV doc pm an cdv ct) [us:[]]=pure (ps.zip us)):Xh K fd ps []:=by
 erw[F.ex,oc,od,kV,doc,pm,an,cdv,ct,osl,rfl,lk,O,<-.all (h kV doc pm an cdv ct)]
def Sj {x qual:Str}{st:Stmt}{f:o3}{oc:o6}{od an:om o3}{osl:Array (om o6)}{kV doc pm cdv ct:o6}(l:K.lookup f=u_ (oc,od,.func (PySem.W.fnOf x qual (Y1 st) (Ya st) (ql st) .none kV doc pm an cdv ct),osl))
  (c:PySem.W.codeIn K cdv qual=v_) (k:PySem.W.keepIn K (-f)=v_):Fun K x qual st f (PySem.W.fnOf x qual (Y1 st) (Ya st) (ql st) .none kV doc pm an cdv ct):=[(oc,od,kV,doc,pm,an,cdv,ct,osl,1,l,c):k]
end
variable {A:oh}
def Qs {k:Nat}(O:mP k A):A.units+1<cLine:=UI (Nat.add_le_add_left (by decide:1<=64) _) O.units
variable {n:Nat}
def zE (h:n<=1000):n<sizeLine:=UI h ()
section
variable {X:Cx}
def pv (i:Nat){x:Str}{pos:Pos}(U:X.N[i]? =u_ x:=by rfl)(hv:Vis X.env.scope x:=by first|exact Hs rfl|exact GL (Hs rfl)|exact GL (GL rfl))(hd:(x==("__debug__":Str))=false:=by decide)
  (O:(x==("__classdict__":Str))=false:=by decide):PE X (.Name x pos) (Acx i):=Adh U hv hd O
def LX:yT X (.builtin "len") (λxs H Q=>∃a kvs,xs= [V.ref a]/\H a=u_ (.dK kvs)/\Q (.int ↑kvs) H):=by
 rw[2,xs,us,Q,I,r,h];erw[h,a,kvs,rfl,ha,q];erw[jL r,u,rfl,ru];rw[ru,0];exact AfE I (.inl ha) λt s' O=>(.int ↑kvs,H,O,[t:1],q)
end
def iX {A B:Prop}(h:B):if Vt=v_ then A else B:=by
 rw[A4 uh];exact h
def lG {A B:Prop}(h:A):if v_=v_ then A else B:=by
 rw[A6 rfl];exact h
def lz {c A B:Prop}[Decidable c](h1:c->A)(h2:¬(c)->B):if c then A else B:=by
 by_cases h:c
 .rw[A6 h];exact h1 h
 .rw[A4 h];exact h2 h
abbrev ie (H H':Hp):Prop:=∀b o,H b=u_ o->H' b=u_ o
def ie.refl (H:Hp):ie H H:=λ_ _ h=>h
variable {H H1 H2:Hp}
def ie.trans (a:ie H H1)(b:ie H1 H2):ie H H2:=λc o h=>b c o (a c o h)
variable {H':Hp}
def ie.free (e:ie H H'){l:o3}(h:H' l=Option.none):H l=Option.none:=by
 cases q:H l with
 |none=>rfl|some o=>
  rw[e l o q,0] at h
section
variable {κ:Type}[DecidableEq κ]
variable {kvs:oj (κ×V)}{v:V}
def SI {k:κ}(h:lh kvs k=u_ v):k>kvs.map (·.1):=by
 let q:(kvs.any λkv=>decide (kv.1=k))=true:=by
  rw[xh,h]
  all_goals rfl
 erw[List.any_eq_true.mp q,p,O,e,<-Af.mpr [p:O:uq e]]
def LD {p:κ×V}{r:oj (κ×V)}{k:κ}(e:p.1=k):J1 (p::r) k=J1 r k:=by
 unfold J1;rw[U8,A4 (by simp[e])]
def LE {p:κ×V}{r:oj (κ×V)}{k:κ}(e:¬p.1=k):J1 (p::r) k=p::J1 r k:=by
 unfold J1;rw[U8,A6 (by simp[e])]
end
end L2
namespace L2
open PySem
inductive D where
 |non|bl (b:Bool)|int (i:Int)|str (z:Str)|lst|dct|tup (xs:List D)
abbrev QD (c:Nat):Bool:=decide (32<=c)&&decide (c<=126)&&decide (c≠37)
abbrev Qt (z:Str):Bool:=decide (↑z<=300)&&z.cps.toList.all QD
mutual
noncomputable def iW:D->Bool
 | .str z=>Qt z| .tup xs=>decide (↑xs<=40)&&goodL xs|_=>Vt
noncomputable def goodL:oj D->Bool
 | []=>v_|x::r=>iW x&&goodL r
end
mutual
noncomputable def sz:D->Nat
 | .str z=>↑z+1| .tup xs=>1+szL xs|_=>0
noncomputable def szL:oj D->Nat
 | []=>0|x::r=>sz x+szL r
end
mutual
noncomputable def dp:D->Nat
 | .str _=>1| .tup xs=>1+dpL xs|_=>0
noncomputable def dpL:oj D->Nat
 | []=>0|x::r=>max (dp x) (dpL r)
end
mutual
noncomputable def nd:D->Nat
 | .tup xs=>1+ndL xs|_=>1
noncomputable def ndL:oj D->Nat
 | []=>0|x::r=>nd x+ndL r
end
abbrev isT (d:D):Bool:=iW d&&decide (sz d<=600)&&decide (dp d<=12)
def Zh:∀(xs ys:oj D),szL (xs++ys)=szL xs+szL ys
 | [],ys=>by simp[szL]|x::r,ys=>by simp![UA,szL,Zh r ys];omega
def Zr:∀(xs ys:oj D),ndL (xs++ys)=ndL xs+ndL ys
 | [],ys=>by simp[ndL]|x::r,ys=>by simp![UA,ndL,Zr r ys];omega
def AJ {k:Nat}:∀(xs:oj D),dpL xs<=k↔∀x>xs,dp x<=k
 | []=>by simp[dpL]|x::r=>by
  let U:=AJ (k:=k) r;let e:dpL (x::r)=max (dp x) (dpL r):=by simp![dpL]
  rw[e];constructor
  .intro h y O;rcases Ab.mp O with rfl|O
   .omega
   .exact U.mp () y O
  .intro h;let h1:=h x uj;let h2:=U.mpr λy O=>h y (ui _ O);omega
def Ad4 {d:D}(h:iW d=v_):1<=dp d:=by
 cases d<;>simp_all [iW,dp]
abbrev wOk (w:oj (D×Nat)):Bool:=w.all λp=>iW p.1&&decide (p.2+dp p.1<=13)
abbrev wSz (w:oj (D×Nat)):Nat:=szL (w.map (·.1))
abbrev G (w:oj (D×Nat))(n:Nat):Bool:=wOk w&&decide (n+wSz w<=600)
def Acf (d:D):G [(d,1)] 0=isT d:=by
 simp![G,wOk,wSz,isT,vK,pW,ur,UR,szL,Ux,HY,Pm];let e:decide (1+dp d<=13)=decide (dp d<=12):=by
  rw[vc];omega
 rw[e];cases iW d<;>cases decide (sz d<=600)<;>cases decide (dp d<=12)<;>rfl
variable {n:Nat}
def AfW (h:n<=600):G [] n=true:=by simp[G,wOk,wSz,szL,h]
def Bb (w:oj (D×Nat))(d:D)(k n:Nat):G (w++ [(d,k)]) n=(wOk w&&(iW d&&decide (k+dp d<=13))&&decide (n+(wSz w+sz d)<=600)):=by
 simp![G,wOk,wSz,Vh,vK,pW,Ux,uA,ur,UR,Zh,szL,Pm]
 rfl
def Acg {w:oj (D×Nat)}{d:D}{k:Nat}(h:iW d=Vt):G (w++ [(d,k)]) n=false:=by
 rw[Bb,h];simp
def SA {w:oj (D×Nat)}{d:D}{k:Nat}(h:12<k):G (w++ [(d,k)]) n=false:=by
 rw[Bb];cases O:iW d with
 |false=>simp|true=>
  have:=Ad4 O;let e:decide (k+dp d<=13)=false:=ub ()
  rw[e];simp
def AeE {w:oj (D×Nat)}{d:D}{k:Nat}(h:600<n+sz d):G (w++ [(d,k)]) n=false:=by
 rw[Bb];let e:decide (n+(wSz w+sz d)<=600)=false:=ub ()
 rw[e];simp
def AeD {w:oj (D×Nat)}{xs:oj D}{k:Nat}(h:600<n+1):G (w++ [(¬xs,k)]) n=false:=AeE (by simp![sz];omega)
def SH (xs:oj D)(k:Nat):wOk (xs.map λx=>(x,k+1))=(goodL xs&&xs.all λx=>decide (k+1+dp x<=13)):=by
 induction xs with
 |nil=>rfl|cons x r O=>
  simp![ur,wOk,vK,goodL] at O⊢;rw[O];cases iW x<;>cases decide (k+1+dp x<=13)<;>cases goodL r<;>simp
def SG (xs:oj D)(k:Nat):wSz (xs.map λx=>(x,k+1))=szL xs:=by
 unfold wSz;rw[uR]
 congr 1
 induction xs with
 |nil=>rfl|cons x r O=>simp![ur,O];rfl
def AfU {w:oj (D×Nat)}{xs:oj D}{k:Nat}(U:↑xs<=40)(hk:k<=12):G (w++ [(¬xs,k)]) n=G (w++xs.map λx=>(x,k+1)) (n+1):=by
 rw[Bb];unfold G;let e1:wOk (w++xs.map λx=>(x,k+1))=(wOk w&&wOk (xs.map λx=>(x,k+1))):=by unfold wOk;rw[Vh]
 let e2:wSz (w++xs.map λx=>(x,k+1))=wSz w+szL xs:=by
  have:=SG xs k;unfold wSz at this⊢;rw[uA,Zh,this]
 let e3:decide (k+dp (¬xs)<=13)=xs.all λx=>decide (k+1+dp x<=13):=by
  let q:=AJ (k:=12-k) xs;let e0:dp (¬xs)=1+dpL xs:=by simp![dp]
  rw[e0,vF];constructor
  .intro h;let h:=uq h;refine List.all_eq_true.mpr λx O=>ua ?_;let h2:=q.mp () x O
   omega
  .intro h;refine ua ?_;let h2:=q.mpr λx O=>by
    let h3:=uq (List.all_eq_true.mp h x O);omega
   omega
 rw[e1,e2,e3,SH];let e4:iW (¬xs)=goodL xs:=by simp![iW,ua U,Tu]
 let e5:decide (n+(wSz w+sz (¬xs))<=600)=decide (n+1+(wSz w+szL xs)<=600):=by
  rw[vc];simp![sz];omega
 rw[e4,e5]
variable {z:Str}
def AfV {w:oj (D×Nat)}{k:Nat}(O:Qt z=v_)(hk:k<=12):G (w++ [(!z,k)]) n=G w (n+(1+↑z)):=by
 rw[Bb];unfold G;let U:iW (!z)=true:=by simp![iW,O]
 let e3:decide (k+dp (!z)<=13)=true:=ua (by simp![dp];omega)
 let e5:decide (n+(wSz w+sz (!z))<=600)=decide (n+(1+↑z)+wSz w<=600):=by
  rw[vc];simp![sz];omega
 rw[U,e3,e5];simp
end L2
namespace AwZ
open PySem PyProof.Rows
open PySem.AutoSeq1 (wpAny_loadPart')
section
variable {prog:o9}{w:og}{A:oh}{E:#[14]}{s:o7}
def AeS {j t:o3}{i:Nat}{its:Array o6}{x:o6}{Q:#[14]}(U:s.heap.IsTupleIter j t i)(gt:s.heap.IsTuple t its)(gx:its[i]? =u_ x)
  (q:∀h2,h2.IsTupleIter j t (i+1)->Hz j s.heap h2->Q x {s with heap:=h2}):Vu #[w,w] A (Hh (-j)) Q E s:=by
 erw[id U,u,O,cu,du];erw[gt,ut,aa,_,nt,ac];unfold Hh;refine A8 (vJ (name:=Hm "__next__") U.typeIs Uf
  (U7 Uf U.typeIs F.entry_tuple_iterator_next ?_ (F.args_tuple_iterator_next_1 _)))
 show Vu _ _ (GY (-j) 0>>=_) _ _ s;refine A8 (vI O du (x:=-t) rfl ?_);show Vu _ _ (if(VB t==Gz)=v_ then _ else _) _ _ s
 rw[A4 (show¬(VB t==Gz)=v_ from uh)]
 show Vu _ _ (GY (-j) 1>>=_) _ _ s;refine A8 (vI O du (x:= .int i 0) rfl ?_);show Vu _ _ (rc (-t)>>=_) _ _ s;refine A8 (Uo aa ac ?_);simp![rh,gx];refine A8 (Rp O du (by simp) (uu [x:1:uu (q _ ?_ (pI ..))]))
 exact(_,T7 _ O (Obj.isFreed_of_fields (r_ du _)),(Obj.cls_mapFields ..).trans cu,by rw[r_ du];simp[GQ])
def D7 {j t:o3}{i:Nat}{its:Array o6}{Q:#[14]}(hh:A.handled=U_)(O:s.heap.IsTupleIter j t i)(gt:s.heap.IsTuple t its)(gx:its[i]? =U_)
  (q:∀h2 e,Heap.ExtBut j s.heap h2->(∃u,h2.get? e=u_ u/\u.cls= .type "StopIteration")->E (-e) {s with heap:=h2}):Vu #[w,w] A (Hh (-j)) Q E s:=by
 erw[id O,u,U,cu,du];erw[gt,ut,aa,_,nt,ac];unfold Hh;refine A8 (vJ (name:=Hm "__next__") O.typeIs Uf
  (U7 Uf O.typeIs F.entry_tuple_iterator_next ?_ (F.args_tuple_iterator_next_1 _)))
 show Vu _ _ (GY (-j) 0>>=_) _ _ s;refine A8 (vI U du (x:=-t) rfl ?_);show Vu _ _ (if(VB t==Gz)=v_ then _ else _) _ _ s
 rw[A4 (show¬(VB t==Gz)=v_ from uh)]
 show Vu _ _ (GY (-j) 1>>=_) _ _ s;refine A8 (vI U du (x:= .int i 0) rfl ?_);show Vu _ _ (rc (-t)>>=_) _ _ s;refine A8 (Uo aa ac ?_);simp![rh,gx];refine A8 (UB (A8 (Rp U du (by simp) ?_)))
 show Vu _ _ (newExc (.type "StopIteration") []>>=_) _ _ _;refine A8 ?_;simp![newExc,newTuple];refine A8 (vq ?_ (by size_fits))
 refine A8 (m:=FN _ _) (Td (a:=Gz) (by first|rfl|(simp![FN];rfl)) ?_)
 refine vq ?_ (by size_fits)
 simp![raiseNew];refine A8 (wpAny_handled ?_)
 first|rw[show A.in1.handled=U_ from hh]|rw[hh]
 refine A8 (uu (pK ?_));exact q _ _ (((pI ..).extBut.push _).push _) [_:uC _ rfl:1]
structure Apt (z p r i j a b:o3):Prop where
 pz:p≠z
 rz:r≠z
 iz:i≠z
 jz:j≠z
 pr:p≠r
 pi:p≠i
 pj:p≠j
 ri:r≠i
 rj:r≠j
 ij:i≠j
 az:a≠z
 ar:a≠r
 ai:a≠i
 aj:a≠j
 bz:b≠z
 br:b≠r
 bi:b≠i
 bj:b≠j
def AeO {z p r i j a b:o3}{k:Nat}{xs ys:Array o6}{x y u v:o6}{Q:#[14]}(D:Apt z p r i j a b)
  (hz:Gh s.heap z p r .none) (hp:VT s.heap p (-i) (-j)) (hr:VT s.heap r u v)
  (hi:s.heap.IsTupleIter i a k) (hj:s.heap.IsListIter j b k) (ha:s.heap.IsTuple a xs) (hb:s.heap.IsList b ys) (hx:xs[k]? =u_ x) (hy:ys[k]? =u_ y)
  (q:∀h2,Gh h2 z p r (GQ #[0,s])->VT h2 r x y->h2.IsTupleIter i a (k+1)->h2.IsListIter j b (k+1)->VT h2 #[0,s] x y->h2.objs.size=#[0,s]+1->
   (∀c o,c≠z->c≠r->c≠i->c≠j->s.heap.get? c=u_ o->h2.get? c=u_ o)->Q (.ref #[0,s]) {s with heap:=h2}):
  Vu #[w,w] A (Gg.«zip.__next__» [[-z]:[]]) (λfin t=>∃v,fin= .done (.ret v)/\Q v t) E s:=by
 show Vu _ _ (GY (-z) 2>>=_) _ _ _;refine A8 (vI hz rfl (x:= .bool Vt) rfl ?_);show Vu _ _ (GY (-z) 3>>=_) _ _ _;refine A8 (vI hz rfl (x:=-p) rfl ?_);refine A8 (Uo hp rfl ?_);show Vu _ _ (Tt (-z)>>=_) _ _ s;refine A8 ?_;unfold Tt;refine A8 (vI hz rfl (x:= .none) rfl (uu ?_));simp![V5];refine A8 (UB ?_);refine A8 (vI hz rfl (x:=-r) rfl ?_);refine A8 (UJ hz (by simp) λh1 z1 s1=>?_)
 replace z1:Gh h1 z p r .ellipsis:=z1
 refine A8 ?_;simp![p_,pF,UQ,pZ];refine A8 (A8 (Tq ?_));show Vu _ _ (Hh (-i)>>=_) _ _ _;refine A8 (AeS (hi.extBut s1.extBut D.iz) (ha.extBut s1.extBut D.az) hx λh2 i2 s2=>uu ?_);let r2:VT h2 r u v:=s2.extBut _ _ D.ri (s1.extBut _ _ D.rz hr);refine A8 (Uo r2 rfl ?_);refine A8 (pH r2 λh3 r3 U=>?_)
 replace r3:VT h3 r x v:=r3
 refine A8 (TR (uu ?_));refine A8 (A8 (Tq ?_));show Vu _ _ (Hh (-j)>>=_) _ _ _;refine A8 (wpAny_nextOf_list_item (((hj.extBut s1.extBut D.jz).extBut s2.extBut D.ij.symm).extBut U.extBut D.rj.symm)
  (((hb.extBut s1.extBut D.bz).extBut s2.extBut D.bi).extBut U.extBut D.br) hy λh4 j4 s4=>uu ?_)
 let r4:VT h4 r x v:=s4.extBut _ _ D.rj r3;refine A8 (Uo r4 rfl ?_);refine A8 (pH r4 λh5 r5 s5=>?_)
 replace r5:VT h5 r x y:=r5
 refine A8 (TR (uu (uu ?_)));refine A8 (Uo r5 rfl ?_);refine A8 (pO ?_);let sz:h5.objs.size=#[0,s]:=by rw[s5.1,s4.1,U.1,s2.1,s1.1]
 let z5:Gh h5 z p r .ellipsis:=s5.extBut _ _ D.rz.symm (s4.extBut _ _ D.jz.symm (U.extBut _ _ D.rz.symm (s2.extBut _ _ D.iz.symm z1)));let k5:∀c o,c≠z->c≠r->c≠i->c≠j->s.heap.get? c=u_ o->h5.get? c=u_ o:=λc o O c2 c3 c4 e=>
  s5.extBut _ _ c2 (s4.extBut _ _ c4 (U.extBut _ _ c2 (s2.extBut _ _ c3 (s1.extBut _ _ O e))))
 let i5:h5.IsTupleIter i a (k+1):=((i2.extBut U.extBut D.ri.symm).extBut s4.extBut D.ij).extBut s5.extBut D.ri.symm;let j5:h5.IsListIter j b (k+1):=j4.extBut s5.extBut D.rj.symm;let aa:z<h5.objs.size:=uD z5;show Vu _ _ (RN (-z) (-h5.objs.size)>>=_) _ _ _;refine A8 ?_;unfold RN;let z6:Gh (h5.push {cls:= .type "tuple",data:= .seq #[x,y]}) z p r .ellipsis:=ug _ z5;refine A8 (UJ z6 (by simp) λh7 z7 s7=>?_)
 replace z7:Gh h7 z p r (GQ h5.objs.size):=z7
 refine UJ z7 (by simp) λh8 z8 s8=>?_
 replace z8:Gh h8 z p r (GQ h5.objs.size):=z8
 let up:∀c o,c≠z->h5.get? c=u_ o->h8.get? c=u_ o:=λc o O e=>s8.extBut _ _ O (s7.extBut _ _ O (ug _ e));let t8:VT h8 h5.objs.size x y:=s8.extBut _ _ (vZ aa) (s7.extBut _ _ (vZ aa) (uC _ rfl));let n8:h8.objs.size=h5.objs.size+1:=by rw[s8.1,s7.1,vo]
 rw[sz] at z8 t8 n8;refine uu [0:?_];show Q (-h5.objs.size) _;rw[sz];exact q h8 z8 (up _ _ D.rz r5) (by erw[i5,o,e,g,<-[o:up _ o D.iz e:g]]) (j5.at λo e=>up _ o D.jz e) t8 n8 λc o O c2 c3 c4 e=>up c o O (k5 c o O c2 c3 c4 e)
def zip_go {z p r i j a b:o3}{k:Nat}{xs ys:Array o6}{x y u v:o6}{Q:om o6->o7->Prop}(D:Apt z p r i j a b)
  (hz:Gh s.heap z p r .none) (U:VT s.heap p (-i) (-j)) (hr:VT s.heap r u v)
  (hi:s.heap.IsTupleIter i a k) (hj:s.heap.IsListIter j b k) (ha:s.heap.IsTuple a xs) (hb:s.heap.IsList b ys) (hx:xs[k]? =u_ x) (hy:ys[k]? =u_ y)
  (q:∀h2,Gh h2 z p r (GQ #[0,s])->VT h2 r x y->h2.IsTupleIter i a (k+1)->h2.IsListIter j b (k+1)->VT h2 #[0,s] x y->h2.objs.size=#[0,s]+1->
   (∀c o,c≠z->c≠r->c≠i->c≠j->s.heap.get? c=u_ o->h2.get? c=u_ o)->Q (u_ (.ref #[0,s])) {s with heap:=h2}):
  Vu #[w,w] A (GT (-z)) Q E s:=by
 let O:s.TypeIs (-z) "zip":=[_:hz:1];unfold GT;exact A8 (UZ (vJ (name:=Hm "__next__") O F.slot_zip_next
  (U7 F.slot_zip_next O F.entry_zip_next (AeO D hz U hr hi hj ha hb hx hy λh2 b1 b2 b3 b4 b5 b6 b7=>uu (q h2 b1 b2 b3 b4 b5 b6 b7)) (F.args_zip_next_1 _))))
def zip_stop {z p r i j a b:o3}{k:Nat}{xs:Array o6}{Q:om o6->o7->Prop}(hh:A.handled=U_)(D:Apt z p r i j a b)
  (hz:Gh s.heap z p r .none) (hp:VT s.heap p (-i) (-j)) (hi:s.heap.IsTupleIter i a k) (ha:s.heap.IsTuple a xs) (hx:xs[k]? =U_)
  (q:∀h2,(∀c o,c≠z->c≠r->c≠i->c≠j->s.heap.get? c=u_ o->h2.get? c=u_ o)->Q U_ {s with heap:=h2}):Vu #[w,w] A (GT (-z)) Q E s:=by
 let tz:s.TypeIs (-z) "zip":=[_:hz:1];unfold GT;refine A8 (UZ (vJ (name:=Hm "__next__") tz F.slot_zip_next
  (U7 F.slot_zip_next tz F.entry_zip_next ?_ (F.args_zip_next_1 _))))
 show Vu _ _ (GY (-z) 2>>=_) _ _ _;refine A8 (vI hz rfl (x:= .bool Vt) rfl ?_);show Vu _ _ (GY (-z) 3>>=_) _ _ _;refine A8 (vI hz rfl (x:=-p) rfl ?_);refine A8 (Uo hp rfl ?_);show Vu _ _ (Tt (-z)>>=_) _ _ s;refine A8 ?_;unfold Tt;refine A8 (vI hz rfl (x:= .none) rfl (uu ?_));simp![V5];refine A8 (UB ?_);refine A8 (vI hz rfl (x:=-r) rfl ?_);refine A8 (UJ hz (by simp) λh1 O s1=>?_)
 replace O:Gh h1 z p r .ellipsis:=O
 refine A8 ?_;simp![p_,pF,UQ,pZ];refine A8 (A8 (Tq ?_));show Vu _ _ (Hh (-i)>>=_) _ _ _;refine A8 (D7 hh (hi.extBut s1.extBut D.iz) (ha.extBut s1.extBut D.az) hx λh2 e s2 he=>?_);erw[he,oe,U,ce];let z2:Gh h2 z p r .ellipsis:=s2 _ _ D.iz.symm O;let ez:e≠z:=λx=>by subst x;rw[z2,0] at U;simp at ce
 refine UJ z2 (by simp) λh3 _ s3=>?_
 refine A8 (Vb (T:="StopIteration") (b:=v_) [oe:s3.extBut _ _ ez U:ce] isSubtype_stop ?_);exact uu (q _ λc o c1 _ c3 _ x=>s3.extBut _ _ c1 (s2 _ _ c3 (s1.extBut _ _ c1 x)))
nonrec abbrev q1 (h:o8)(a:o3):o8:=h.push {cls:= .type "tuple_iterator",data:= .fields #[-a,.int 0 0]}
nonrec abbrev q2 (h:o8)(a b:o3):o8:=(q1 h a).push {cls:= .type "list_iterator",data:= .fields #[-b,.int 0 0]}
nonrec abbrev q3 (h:o8)(a b:o3):o8:=(q2 h a b).push {cls:= .type "tuple",data:= .seq #[-h.objs.size,.ref (q1 h a).objs.size]}
nonrec abbrev q4 (h:o8)(a b:o3):o8:=(q3 h a b).push {cls:= .type "tuple",data:= .seq #[.none,.none]}
nonrec abbrev q5 (h:o8)(a b:o3):o8:=(q4 h a b).push {cls:= .type "zip",data:= .fields #[.none,.bool Vt,.bool Vt,.ref (q2 h a b).objs.size,.ref (q3 h a b).objs.size]}
def Mh (a b:o3)(xs ys:Array o6):Hf (Gg.«zip.__new__» [[.type "zip",-a,-b]:[]]) (λ_ R s=>s.heap.IsTuple a xs/\s.heap.IsList b ys/\R (.ok (.ret (.ref (q4 s.heap a b).objs.size))) {s with heap:=q5 s.heap a b}):=
 .of_wp λprog w A R s h=>by
  erw[s,O,g,d,tk,os];erw[h,ha,U,h];let sub:=sub_zip;let h1:Heap.IsTuple (PD (O,g,d,tk,os)) a xs:=ha;let h2:Heap.IsList (PD (O.push {cls:= .type "tuple_iterator",data:= .fields #[-a,.int 0 0]},g,d,tk,os)) b ys:=oA U _
  wp_walk using FG h1,Vk h2
  exact[0:h]
def zip_call {a b:o3}{xs ys:Array o6}{Q:#[14]}(ha:s.heap.IsTuple a xs)(hb:s.heap.IsList b ys)
  (h:∀h2,Gh h2 (#[0,s]+4) (#[0,s]+2) (#[0,s]+3) .none->VT h2 (#[0,s]+2) (.ref #[0,s]) (.ref (#[0,s]+1))->
   VT h2 (#[0,s]+3) .none .none->h2.IsTupleIter #[0,s] a 0->h2.IsListIter (#[0,s]+1) b 0->h2.objs.size=#[0,s]+5->
   (∀c o,s.heap.get? c=u_ o->h2.get? c=u_ o)->Q (.ref (#[0,s]+4)) {s with heap:=h2}):Vu #[w,w] A (call (.type "zip") [-a,-b]) Q E s:=by
 refine callType_new F.called_zip () (F.typeCall_zip_2 _ _) (F.newCall_zip_2 _ _) (λobj=>F.args_object_init_3 obj _ _) F.entry_zip_new (Mh a b xs ys) [ha:hb:?_]
 let O:(q1 s.heap a).objs.size=#[0,s]+1:=vo ..;let U:(q2 s.heap a b).objs.size=#[0,s]+2:=by rw[vo,O]
 let z3:(q3 s.heap a b).objs.size=#[0,s]+3:=by rw[vo,U]
 let z4:(q4 s.heap a b).objs.size=#[0,s]+4:=by rw[vo,z3]
 let z5:(q5 s.heap a b).objs.size=#[0,s]+5:=by rw[vo,z4]
 let g5:(q5 s.heap a b).get? (q4 s.heap a b).objs.size=u_ _:=uC _ rfl;let g4:(q5 s.heap a b).get? (q3 s.heap a b).objs.size=u_ _:=ug _ (uC _ rfl);let g3:(q5 s.heap a b).get? (q2 s.heap a b).objs.size=u_ _:=ug _ (ug _ (uC _ rfl));let g2:(q5 s.heap a b).get? (q1 s.heap a).objs.size=u_ _:=ug _ (ug _ (ug _ (uC _ rfl)));let g1:(q5 s.heap a b).get? #[0,s]=u_ _:=ug _ (ug _ (ug _ (ug _ (uC _ rfl))));show _/\_;rw[U,z3,z4] at g5;rw[O,U] at g3;rw[z3] at g4;rw[O] at g2;rw[z4];exact[[_:g5:1]:h _ g5 g3 g4 (_,g1,1,1) (_,g2,1,1) z5 λc o x=>ug _ (ug _ (ug _ (ug _ (ug _ x))))]
end
end AwZ
namespace L2
open PySem PySem.Spec PyProof.Rows
abbrev Its (x:Str):It:=⟨λi _=>i<x.cps.size,λi H v H'=>H'=H/\∃c,x.cps[i]? =u_ c/\v= .str ⟨#[c]⟩,λi _=>i=x.cps.size⟩
variable {w:og}{K:o0}{tg:Expr}{x:Str}
def B8 {P:o9}{t:Tok}{it:o3}(ty:String)(O:ty="str_ascii_iterator"\/ty="str_iterator"):
  Sw P w K tg (Its x) [it] it (λi h=>h.IsStrIter it ty x t i) where
 mem:=by simp
 obj:=λi h st b U=>by
  let e:b=it:=by simpa using U
  subst e;erw[st,o,e,c,d,<-⟨o,e,λv z=>by rw[d,0] at z⟩]
 keep:=λi h h' st k=>by
  erw[st,o,e,r,<-⟨o,k it (by simp) o e,r⟩]
 item:=by
  rw[24];subst hP hw hK;rw[21]
  let W:Walks X.prog X.w X.A it [it] [it] x.cps.size (SignAt x) (λi h=>h.IsStrIter it ty x t i):=by
   rcases O with rfl|rfl
   .exact rK (I.ok.hd hc) it x t
   .exact RQ (I.ok.hd hc) it x t
  refine uQ (n:=1) I.tk (W.item i s _ _ hg st λv h' tk hv aa kk=>?_);intro htk;erw[hv,c,u,hx,rfl];let I1:Inv X oq σ H {s with heap:=h',toks:=tk}:=I.turned (λb o U e=>kk b o (by simpa using U) e) f0 f1 f3 f4 f5
  erw[id aa,o,e,c',d];refine⟨0,DN (s:={s with heap:=h',toks:=tk}) e c' d (by rcases O with rfl|rfl<;>decide) ⟨.str ⟨#[c]⟩,H,I1,[u:1],⟨1,c,hx,1⟩,aa,λb U=>(hf b U).1⟩⟩
 done:=by
  rw[24];subst hP hw hK;let ac:i=x.cps.size:=hg;subst ac;rw[21]
  let W:Walks X.prog X.w X.A it [it] [it] x.cps.size (SignAt x) (λi h=>h.IsStrIter it ty x t i):=by
   rcases O with rfl|rfl
   .exact rK (I.ok.hd hc) it x t
   .exact RQ (I.ok.hd hc) it x t
  exact uQ (n:=1) I.tk (W.done s _ _ st λh' tk kk htk=>⟨1,I.turned (λb o U e=>kk b o (by simpa using U) e) f0 f1 f3 f4 f5⟩)
 self:=λ_ _ _ _ _ st h=>by
  rcases O with rfl|rfl
  .exact wpAny_pyIter_striter_ascii st h
  .exact wpAny_pyIter_striter_wide st h
section
variable {X:Cx}{tg:Expr}
inductive AfT (R:(It->Hp->Prop))(x:V)(H1:Hp):Prop
 |mk (z:_)(_:x= !z)(_:R (Its z) H1)
abbrev AgO (tl:TE):TI:=λσ H R=>tl σ H λx H1=>AfT R x H1
def OM {l:Expr}{tl:TE}(U:PE X l tl):PI X tg l (AgO tl):=by
 rw[2,R,I,h];refine thn (U oq s σ H _ I h) λv s1 zq=>?_;erw[zq,x,H1,O,r1,q1];erw[q1,z,e,q];subst e;erw[r1,t,rfl];let fp:∀(o:Obj),∀b> [#[0,s1]],B6 X oq H1 b:=λo b hb=>by
  let e:b=#[0,s1]:=by simpa using hb
  subst e;exact O.fpOk (Vv _) (O.hok.fresh (Vv _))
 cases ha:z.cps.all (·<128)
 .refine wpAny_pyIter_wide ha ?_;exact(#[0,s1],[#[0,s1]],_,_,H1,1,O.kept (t':=s1.toks) λb o e=>ug _ e,B8 "str_iterator" (.inr rfl),(_,uC _ rfl,1,1),fp default,q)
 .refine wpAny_pyIter_ascii ha ?_;exact(#[0,s1],[#[0,s1]],_,_,H1,1,O.kept (t':=s1.toks) λb o e=>ug _ e,B8 "str_ascii_iterator" (.inl rfl),(_,uC _ rfl,1,1),fp default,q)
inductive Af7 (x:V)(lo:Option Int)(hi:Option Int)(H:Hp)(Q:VK):Prop
 |mk (z:_)(_:x= !z)(_:↑z<=Vw)(_:Q (.str (GB z lo hi)) H)
abbrev Dg:o6->om (Int×Tok)
 | .int i t=>u_ (i,t)|_=>U_
def OB:SlR X Af7:=by
 rw[2,x,v,O,U,lo,hi,sl,Q,I,rx,hs,pl,pu,h];erw[h,z,rfl,hz,q];erw[rx,t,rfl];rw[_,"str",_,F.slot_str_getitem.lookup,vT _ _ _];let hl:O=partValue (Dg O)/\lo=(Dg O).map (·.1):=by cases pl<;>exact[1:1]
 let hu:U=partValue (Dg U)/\hi=(Dg U).map (·.1):=by cases pu<;>exact[1:1]
 erw[hs,o,e1,e2,e3];refine uQ (n:=1) I.tk ?_;refine wpAny_getItem_str_slice (l:=Dg O) (u:=Dg U) (st:=U_) (o,e1,e2,by rw[e3,<-hl.1,<-hu.1];rfl) rfl ?_
 refine post_val_or_str [?_:λt' k=>?_]
 .exact uP (PN z _ _) hz
 .intro htk;exact(.str (GB z lo hi),H,I.tok k,⟨t',by rw[hl.2,hu.2];rfl⟩,q)
def Qb {K:o0}(U:X.K=K):yT X (.builtin "isinstance") (λxs H Q=>∃x T t b,xs= [x,.ty T]/\B5 K H x t/\PySem.W.kitOne K t (.type T)=u_ b/\Q (.bl b) H):=by
 rw[2,xs,us,Q,I,r,h];erw[h,x,T,t,b,rfl,ty,e,q];erw[Bg r,u,u',rfl,ru,O];rw[O,0];subst U;exact uQ (n:=1) I.tk (Av I ru ty e λtk htk=>(.bl b,H,I.tok tk,1,q))
def AZ:∀bs:oj Bool,(VN ↑bs).all (λi=>bs.getD i v_)=bs.all id
 | []=>rfl|b::r=>by
  rw[uw,Ra,vK,US,vK];let e:(VN ↑r).all ((λi=>(b::r).getD i v_)∘Pf)=(VN ↑r).all λi=>r.getD i true:=by
   congr 1
  rw[e,AZ r]
  rfl
def wG (hc:X.calm=v_):yT X (.builtin "all") (λxs H Q=>∃(p:o3) (bs:oj Bool),xs= [-p]/\SqL X.K H p (bs.map V.bl)/\Q (.bl (bs.all id)) H):=by
 rw[2,xs,us,Q,I,r,h];erw[h,p,bs,rfl,hp,q];erw[jL r,u,rfl,ru];rw[ru,0];erw[I.list hp,its,rv,pl,hz];let ac:p<#[0,s]:=by erw[pl,o,n,e,_,<-uD e]
 refine uQ (n:=1) I.tk ?_;refine call_all_walk (Vk pl.isList ?_);let up:∀b o,s.heap.get? b=u_ o->(s.heap.push {cls:= .type "list_iterator",data:= .fields #[-p,.int 0 0]}).get? b=u_ o:=λb o e=>ug _ e;let hl:↑its=↑bs:=by have:=↑rv;simpa using this.symm
 rw[_,#[0,s],_,_,_,_,_,λi=>bs.getD i v_,1,Walks.list (show X.A.in1.handled=U_ from I.ok.hd hc) #[0,s] p (uM ac) its.toArray,[(_,uC _ rfl,1,1):pl.isList.push _],?_,?_]
 .intro i v s' Q' E' hv hQ;let O:its[i]? =u_ v:=by simpa using hv
  let hi:i<↑its:=(Ah.mp O).1;obtain⟨u,e1,e2⟩:=rv.get (i:=i) (x:= .bl (bs[i]'())) (by simp[show i<bs.length by omega])
  rw[O,0] at e1;rw[e2,0];have:bs.getD i v_=bs[i]'():=by simp[Hw,show i<bs.length by omega]
  let U:Q' (bs.getD i v_) s':=hQ;rw[this] at U;exact vA U
 .intro h' tk kk htk;let aa:(VN its.toArray.size).all (λi=>bs.getD i v_)=bs.all id:=by
   rw[uz,hl];exact AZ bs
  rw[aa];let I1:=I.kept (t':=s.toks) (h':=s.heap.push {cls:= .type "list_iterator",data:= .fields #[-p,.int 0 0]}) up;let ad:=I.fpOk (Vv _) (I.hok.fresh (Vv #[0,s]));erw[ad,f0,f1,f2,f3,f4,f5,<-(.bl (bs.all id),H,I1.turned (it:=#[0,s]) (λb o hb e=>kk b o (by simpa using hb) e) f0 f1 f3 f4 f5,1,q)]
end
section
variable {X:Cx}
def AaL:OpR X (Gf .Mult) (λx y H Q=>∃z k,x= .str z/\y= .int k/\MulOk z k/\Q (.str (rA z k)) H):=by
 rw[2,x,y,v,u,Q,I,O,U,h];erw[h,z,k,rfl,rfl,hok,q];erw[O,t,rfl];erw[U,t',rfl,<-uQ (n:=1) I.tk (SB.mul hok λt' k' htk=>(.str (rA z k),H,I.tok k',[t':1],q))]
def qaa {x:Str}{i:Int}{pos:Pos}(O:Gl X x)(hm:∃t,X.mg x=u_ (.int i t))(hd:(x==("__debug__":Str))=Vt):PE X (.Name x pos) (tC (.int i)):=by
 erw[hm,t,hm,<-Bw O hm [t:1] hd]
def Adk {x z:Str}{pos:Pos}(O:Gl X x)(hm:∃t,X.mg x=u_ (.str z t))(hd:(x==("__debug__":Str))=Vt):PE X (.Name x pos) (tC (!z)):=by
 erw[hm,t,hm,<-Bw O hm [t:1] hd]
def WV {x:Str}{a:o3}{pos:Pos}(O:Gl X x)(hm:X.mg x=u_ (-a))(hd:(x==("__debug__":Str))=Vt):PE X (.Name x pos) (tC (-a)):=Bw O hm rfl hd
end
variable {H:Hp}{p:o3}
def qf (h:H p=U_)(o:HO):ie H (upd H p o):=λb u q=>by rw[qk (qi q h)];exact q
abbrev ll (p:o3)(H H':Hp):Prop:=∀b o,H b=u_ o->b≠p->H' b=u_ o
def ll.refl (p:o3)(H:Hp):ll p H H:=λ_ _ h _=>h
variable {H1 H2:Hp}
def ll.trans (a:ll p H H1)(b:ll p H1 H2):ll p H H2:=λc o h n=>b c o (a c o h n) n
def ll.upd (p:o3)(H:Hp)(o:HO):ll p H (L2.upd H p o):=λb u h n=>by rw[qk n];exact h
variable {H':Hp}
def ll.same (k:ll p H1 H')(s:ie H H1)(n:H p=U_):ie H H':=λb o h=>k b o (s b o h) (qi h n)
def YD {α:Type}{xs:oj α}{i:Int}(h0:0<=i)(h1:i<↑xs):∃c,atI xs i=u_ c:=by
 obtain⟨n,rfl⟩:∃n:Nat,i=(n:Int):=[i.toNat:()]
 let hn:n<↑xs:=by omega
 exact[xs[n]:Qk (um hn)]
abbrev nR (cells:oj (Str×o3)):oj (Str×Gu)->oj (Str×o3)->oj (Str×o3)
 | [],cs=>cs|(n,k)::r,cs=>nR cells r (if k== .free then(match cells.lookup n with|some a=>(n,a)::cs|none=>cs) else cs)
set_option tactic.hygienic true in
def qas {cells:oj (Str×o3)}:∀{names:oj (Str×Gu)}{cs:oj (Str×o3)},(∀y c,cs.lookup y=u_ c->cells.lookup y=u_ c)->∀y c,(nR cells names cs).lookup y=u_ c->cells.lookup y=u_ c
 | [],_,h=>h|(n,k)::r,cs,h=>by
  unfold nR;refine qas λy c e=>?_;split at e
  .split at e
   .rename_i a ha
    rw[vm] at e;split at e
    .rename_i U
     let O:y=n:=beq_iff_eq.mp U;subst O;rw[e,0];exact ha
    .exact h y c e
   .exact h y c e
  .exact h y c e
def AN {cells:oj (Str×o3)}:∀{names:oj (Str×Gu)}{cs:oj (Str×o3)}{y:Str},(∃c,cs.lookup y=u_ c)->∃c,(nR cells names cs).lookup y=u_ c
 | [],_,_,h=>h|(n,k)::r,cs,y,h=>by
  unfold nR;refine AN ?_;split
  .split
   .rw[vm];split
    .exact⟨0⟩
    .exact h
   .exact h
  .exact h
def qaS {cells:oj (Str×o3)}:∀{names:oj (Str×Gu)}{cs:oj (Str×o3)}{y:Str},(y,VU)>names->(∃c,cells.lookup y=u_ c)->∃c,(nR cells names cs).lookup y=u_ c
 | [],_,_,h,_=>nomatch h|(n,k)::r,cs,y,h,O=>by
  unfold nR;rcases Ab.mp h with e|h
  .rw[e,0];refine AN ?_;erw[O,c,O];rw[A6 (),O]
   exact⟨c,by simp[vm]⟩
  .exact qaS h O
def zY {env:Env}:∀{names:oj (Str×Gu)}{cs:oj (Str×o3)},(∀y,(y,VU)>names->∃c,env.cells.lookup y=u_ c)->
  (GK names cs λx r=>(do
   if x.2== .free then
    let a<-t_ env x.1
    pure (Hi ((x.1,a)::r))
   else pure (Hi r):Sem (ForInStep (oj (Str×o3)))))=(pure (nR env.cells names cs):Sem (oj (Str×o3)))
 | [],cs,_=>rfl|(n,k)::r,cs,h=>by
  rw[UQ];let hr:∀y,(y,VU)>r->∃c,env.cells.lookup y=u_ c:=λy hy=>h y (ui _ hy);unfold nR;by_cases O:(k==VU)=v_
  .let U:k= .free:=by simpa using O
   subst U;erw[h n uj,c,hc];let e:t_ env n=pure c:=by unfold t_;rw[hc]
   simp![O,V5,e,hc,FJ];exact zY hr
  .simp![A4 O,FJ];exact zY hr
def Ki {scope:VV}{env:Env}(h:∀y,(y,VU)>scope.names->∃c,env.cells.lookup y=u_ c):tU scope env=pure (nR env.cells scope.names []):=by
 unfold tU;let q:=zY (cs:= []) h;show(GK scope.names ([]:oj (Str×o3)) (λx r=>(do
   if x.2== .free then
    let a<-t_ env x.1
    pure (Hi ((x.1,a)::r))
   else pure (Hi r):Sem (ForInStep (oj (Str×o3)))))>>=λcs=>pure cs)=_
 rw[q,FJ]
def ZT {env:Env}(hf:env.scope.kind= .function):∀{names:oj (Str×Gu)}{x:Str},names.lookup x=u_ .free->env.kindOf x=u_ .cell->
  (names.map λ(n,k)=>if#[19] then(n,GR) else(n,k)).lookup x=u_ .cell
 | [],_,h,_=>by simp at h|(n,k)::r,x,h,hc=>by
  let ih:= @ZT env hf r x;show G7 x ((if#[19]=v_ then(n,GR) else(n,k))::_)=_
  cases O:x==n with
  |true=>
   simp![vm,O] at h;rw[h,0];let aa:x=n:=beq_iff_eq.mp O;subst aa;rw[A6 (by rw[hf,hc];rfl)]
   simp[vm]
  |false=>
   simp![vm,O] at h;by_cases U:#[19]=v_
   .rw[A6 U];simp![vm,O];exact ih h hc
   .rw[A4 U];simp![vm,O];exact ih h hc
def Wo {env:Env}:∀{names:oj (Str×Gu)}{x:Str},(∀y>names,y.2≠ .cell)->
  ((names.map λ(n,k)=>if#[19] then(n,GR) else(n,k)).lookup x=u_ .cell\/
   (names.map λ(n,k)=>if#[19] then(n,GR) else(n,k)).lookup x=u_ .free)->(x,VU)>names
 | [],_,_,h=>by simp at h|(n,k)::r,x,hn,h=>by
  let ih:= @Wo env r x (λy hy=>hn y (ui _ hy));let g:G7 x ((if#[19]=v_ then(n,GR) else(n,k))::(r.map λ(n,k)=>if#[19] then(n,GR) else(n,k)))=u_ .cell\/
   G7 x ((if#[19]=v_ then(n,GR) else(n,k))::(r.map λ(n,k)=>if#[19] then(n,GR) else(n,k)))=u_ .free:=h
  let aa:k≠ .cell:=hn (n,k) uj;by_cases hc:#[19]=v_
  .rw[A6 hc] at g;let hk:k= .free:=by
    rw[uB,uB] at hc
    simpa using hc.1.1
   subst hk;cases U:x==n with
   |true=>
    let O:x=n:=beq_iff_eq.mp U;subst O;exact uj
   |false=>
    simp![vm,U] at g;exact ui _ (ih g)
  .rw[A4 hc] at g;cases U:x==n with
   |true=>
    let O:x=n:=beq_iff_eq.mp U;subst O;simp![vm,U] at g;rcases g with g|g
    .exact A9 (uJ g) aa
    .rw[show k=VU from uJ g]
     exact uj
   |false=>
    simp![vm,U] at g;exact ui _ (ih g)
nonrec abbrev blk (X:Cx)(scope:VV)(Nb:oj Str)(cl:oj (Str×o3))(C:o3)(s₀:o7)(H₀:Hp)(fp:oj o3)(pn:#[16]):Cx:=
 {X with N:=Nb,s₀:=s₀,H₀:=H₀,env:=FX scope cl C X.env,outer:=X.stack,ex:=fp,fn:=λ_=>Vt,pn:=pn,xe:=λ_ _=>False}
structure LcS (X:Cx)(scope:VV)(Nb:oj Str)(nt:Nat)(fr:oj Nat):Prop where
 kind:scope.kind= .function
 cell:∀y>scope.names,y.2≠ .cell
 names:∀y>scope.names,y.2= .local->scope.names.lookup y.1=u_ .local
 free:∀y>scope.names,y.2= .free->X.env.kindOf y.1=u_ .cell
 len:↑Nb=nt+↑fr
 fr:∀(k j:Nat) (x:Str),fr[k]? =u_ j->Nb[nt+k]? =u_ x->X.N[j]? =u_ x/\scope.names.lookup x=u_ .free
abbrev Aaq (nt:Nat)(fr:oj Nat)(σ:St):St:=VJ nt U_++fr.map λj=>(σ[j]?).join
variable {h h':o8}{C:o3}
def HOk.sameBut {P:o9}(ok:HOk P w H h)(hn:H C=U_)(U:Hz C h h'):HOk P w H h':=λb ob e=>by
 refine(ok b ob e).stay (λc w' O q=>(U.2 c ?_).trans q) (λ_ q=>q) λ_ _ q=>q;rintro rfl;rcases O with rfl|O
 .rw[hn,0] at e
 .rw[hn,0] at O
section
variable {pr:o9}{wo:og}{ar:oh}{RR:GP->o7->Prop}{st:o7}
nonrec abbrev nb (pr:o9)(wo:og)(ar:oh)(en:Env)(RR:GP->o7->Prop):#[14]:=notedBy (VC pr wo) ar en λx t=>RR (.error x) t
nonrec abbrev Af0 (en:Env)(cs:oj Expr):Sem Bool:=GK cs v_ λc b=>if b=v_ then do let y<-isTrue c en (eval c en);pure (Hi y) else pure (Hi b)
def BS {el tg aa:Expr}{cs:oj Expr}{sc:VV}{ps:Pos}{O U:o6}{en:Env}(J:Nat->o7->Prop)
  (ac:∀k t,J k t->Vu (VC pr wo) ar (GT O) (λr t1=>match r with
   |none=>RR (.ok .next) t1|some v=>Vu (VC pr wo) ar (tZ tg O v) (λ_ t2=>Vu (VC pr wo) ar (GN tg en v) (λ_ t3=>Vu (VC pr wo) ar (Af0 en cs) (λb t4=>
     if b=v_ then Vu (VC pr wo) ar (eval el en) (λx t5=>Vu (VC pr wo) ar (call (.builtin "list.append") [U,x]) (λ_ t6=>∃m,m<k/\J m t6) (nb pr wo ar en RR) t5) (nb pr wo ar en RR) t4
     else∃m,m<k/\J m t4) (nb pr wo ar en RR) t3) (nb pr wo ar en RR) t2) (nb pr wo ar en RR) t1) (nb pr wo ar en RR) t)
  (k:Nat) (h0:J k st):G9 (VC pr wo) ar (.compLoop (.ListComp el [(tg,aa,cs,(0))] sc ps) 0 O U en) RR st:=by
 refine codeAny_loop rfl J (λk t hJ=>?_) k h0;show Vu _ ar ((compTurn (.ListComp el [(tg,aa,cs,(0))] sc ps) 0 O U en).onRaise λx=>do noteFrame x en;theTreesLotGoes x) _ _ t
 rw[compTurn_list];refine wpAny_noted (A8 (Tn (A8 (thn (ac k t hJ) λr t1 q1=>?_))));cases r with
 |none=>exact uu q1|some v=>
  refine A8 (thn q1 λ_ t2 q2=>A8 (thn q2 λ_ t3 q3=>A8 (thn q3 λb t4 q4=>?_)));cases b with
  |false=>exact uu [1:q4]|true=>exact A8 (A8 (thn q4 λx t5 q5=>A8 (thn q5 λ_ t6 q6=>uu (uu [1:q6]))))
end
abbrev Aeo (X:Cx)(ifs:oj Expr)(t:TT):Prop:=
 ∀(oq:#[16]) (s:o7) (σ:St) (H:Hp) (Q:Bool->Hp->Prop),#[I]->t σ H Q->Vu #[X,X] X.A (Af0 X.env ifs) (TP X oq σ Q) X.xe s
abbrev Di:TT:=λ_ H Q=>Q v_ H
def y8 {X:Cx}:Aeo X [] Di:=λ_ _ _ H _ I h=>wpAny_tests_nil [H:I:h]
def Bu {X:Cx}{c:Expr}{t:TT}(h:PT X c t):Aeo X [c] t:=λoq s σ H Q I O=>wpAny_tests_one (h oq s σ H Q I O)
abbrev Mg (D:o3)(J:It)(g:TG)(tc:TT)(te:TE)(σb:St)(H1:Hp)(Q:VK):Prop:=
 ∃(n:Nat) (W:Nat->St->oj V->Hp->Prop),n<=Vw/\W 0 σb [] (upd H1 D (.lst []))/\
  (∀i σ ys H,i<n->W i σ ys H->H D=u_ (.lst ys)->↑ys<=i->J.go i H/\∀x H',J.yld i H x H'->g x σ H' λσ2 H2=>tc σ2 H2 λb H3=>
   if b=v_ then te σ2 H3 λy H4=>H4 D=u_ (.lst ys)/\W (i+1) σ2 (ys++ [y]) (upd H4 D (.lst (ys++ [y]))) else H3 D=u_ (.lst ys)/\W (i+1) σ2 ys H3)/\
  ∀σ ys H,W n σ ys H->H D=u_ (.lst ys)->J.stop n H/\Q (-D) H
abbrev tLC (nt:Nat)(fr:oj Nat)(wi:TI)(g:TG)(tc:TT)(te:TE):TE:=λσ H Q=>wi σ H λJ H1=>∀D,H1 D=U_->Mg D J g tc te (Aaq nt fr σ) H1 Q
section
variable {X:Cx}{scope:VV}{Nb:oj Str}{nt:Nat}{fr:oj Nat}
def AbD {oq:#[16]}{σ:St}{H:Hp}{s:o7}{fp:oj o3}{C:o3}{h4:o8}{tk:Nat}(S:LcS X scope Nb nt fr)(I:#[I])(hC:C=#[0,s])
  (ah:h4.Ns C λ_=>U_) (U:∀b o,s.heap.get? b=u_ o->h4.get? b=u_ o) (hf:∀b>fp,B6 X oq H b) (ho:∀b>fp,∃o,s.heap.get? b=u_ o) (ht:0<tk:=by ac_rfl):
  Inv (blk X scope Nb (nR X.env.cells scope.names []) C s H fp (X.pn++oq)) [] (Aaq nt fr σ) H {s with heap:=h4,toks:=tk}:=by
 subst hC;let sub:∀y c,(nR X.env.cells scope.names []).lookup y=u_ c->X.env.cells.lookup y=u_ c:=qas λy c e=>by simp at e
 let aa:∀y,(y,VU)>scope.names->X.env.kindOf y=u_ .cell:=λy hy=>S.free _ hy rfl;let ae:∀b o,s.heap.get? b=u_ o->b≠#[0,s]:=λb o e z=>by rw[z] at e;exact A9 (uD e) (vC _)
 let O:∀b,b≠X.env.locals->b∉X.fs->b∉frs X.stack:=λb h1 h2 z=>(Ab.mp (I.stkSub b z)).elim h1 h2;rw[_,(I.ok.mod,S.kind,I.ok.glob,I.ok.blt,Vv _,λx y c h1 h2=>I.ok.inj x y c (sub x c h1) (sub y c h2),λx hx=>?_,λx c z=>(by rw[z,0]),I.ok.hd,I.ok.frames,.inl rfl,λb hb=>?_,I.bs,uP I.ok.bsz I.sz,λb o e hb=>?_,λb hb=>?_,I.stack,I.stkFree),1,I.bare,Un.kept U,[_:ah:λi x v e1 e2 e3=>?_],λx c e=>?_,I.hok.fresh (Vv _),λx c e=>I.freeC x c (sub x c e),λp hp=>?_,I.hok.kept U,?_,ht]
 .let hm:=Wo (env:=X.env) S.cell hx;exact qaS hm (I.ok.has x (.inl (aa x hm)))
 .erw[ho b hb,o,e,<-[ae b o e:λx c e'=>(hf b hb).2.2.2.2.1 x c (sub x c e')]]
 .rcases(hf b hb).2.2.2.1 with z|z
  .exact I.ok.noex b o e z
  .exact A9 (VP (uD e) (uP I.ok.bsz z)) (vC _)
 .exact O b (hf b hb).2.1 (hf b hb).2.2.1
 ·
  let hi:nt<=i:=by
   rcases Ua i nt with z|z
   .unfold Aaq at e2;rw[V8 (by simpa using z),RS] at e2
    split at e2<;>cases e2
   .exact z
  obtain⟨k,rfl⟩:∃k,i=nt+k:=[i-nt:()]
  unfold Aaq at e2;rw[V3 (by simp)] at e2
  simp![UP,Nat.add_sub_cancel_left,uG] at e2;cases ej:fr[k]? with
  |none=>rw[ej,0] at e2|some j=>
   rw[ej] at e2;let ac:(σ[j]?).join=u_ v:=uJ e2;let af:σ[j]? =u_ (u_ v):=by
    cases q:σ[j]? with
    |none=>rw[q,0] at ac|some z=>rw[q] at ac;exact Aa u_ ac
   erw[S.fr k j x ej e1,n1,n2];let kx:X.env.kindOf x=u_ .cell:=aa x (vR n2);erw[I.loc,m,hn,hl];erw[hl j x v n1 af (.inr (.inl kx)),u,r,l];rw[_,u,r,.inr [.inl (ZT I.ok.kind n2 kx):?_]];rcases l with⟨z,_⟩|⟨_,c,ec,ad⟩
   .rw[kx,0] at z
   .erw[qaS (cells:=X.env.cells) (cs:= []) (vR n2) [c:ec],c',ag];have:=sub x c' ag;rw[ec,0] at this;erw[ad,o,q,d,<-(c,ag,o,U c o q,d)]
 .erw[I.cell x c (sub x c e),v,o,q,d,<-(v,o,U c o q,d)]
 .let ak:p>X.pn++oq:=by simpa using hp
  erw[I.pin p ak,e,n,ne,nf,d,<-(U _ _ e,n,ae _ _ e,O _ ne nf,d)]
 .show(Aaq nt fr σ).length=↑Nb;unfold Aaq;rw[S.len];simp
def IP {tg ac am:Expr}{ao:oj Expr}{wi:TI}{g:TG}{tc:TT}{te:TE}{pos:Pos}{R:o6->o3->GP->o7->Prop}{oq:#[16]}{s:o7}{σ:St}{H:Hp}{Q:VK}(S:LcS X scope Nb nt fr)(ap:X.calm=v_)(hi:PI X tg ac wi)
  (hg:∀cl C s₀ H₀ fp pn,PG (blk X scope Nb cl C s₀ H₀ fp pn) tg g) (hc:∀cl C s₀ H₀ fp pn,Aeo (blk X scope Nb cl C s₀ H₀ fp pn) ao tc) (he:∀cl C s₀ H₀ fp pn,PE (blk X scope Nb cl C s₀ H₀ fp pn) am te)
  (I:#[I]) (h:tLC nt fr wi g tc te σ H Q)
  (hR:∀(D C:o3) (H':Hp) (s1:o7) (m:Str->om o6),Inv X oq σ H' s1->s1.heap.Ns C m->B6 X oq H' C->Q (-D) H'->R (-D) C (.ok .next) s1):
  Vu #[X,X] X.A (eval ac X.env) (λx s₁=>Vu #[X,X] X.A (Ta x) (λit s₂=>Vu #[X,X] X.A (tO []) (λay s₃=>
   Vu #[X,X] X.A (FO scope X.env.globals (nR X.env.cells scope.names []) [] X.env.qual U_ .none (u_ X.env)) (λah s₄=>
    G9 #[X,X] X.A (.compStart (.ListComp am [(tg,ac,ao,(0))] scope pos) 0 it ay {ah with scope:=relabel scope X.env}) (R ay ah.locals) s₄) X.xe s₃) X.xe s₂) X.xe s₁) X.xe s:=by
 refine thn (hi oq s σ H _ I h) λv s1 h1=>thn h1 λaU s2 h2=>?_;erw[h2,it,fp,tn,J,H2,e,I2,T,aq,f2,q2];subst e;let aA:H2 #[0,s2]=none:=I2.hok.fresh (Vv _);erw[q2 _ aA,n,W,hn,w0,step,fin];generalize hD:#[0,s2]=D at*;refine vq ?_;rw[hD];let I3:Inv X oq σ (upd H2 D (.lst [])) {s2 with heap:=s2.heap.push {cls:= .type "list",data:= .seq ([]:oj o6).toArray}}:=by
  have:=I2.lnew (ys:= []) (its:= []) (t':=s2.toks) .nil (uN _);rwa[hD] at this
 refine wpAny_newFunctionEnv S.cell (by intro y hy;simp at hy) (λh4 ae au=>?_) S.kind
 dsimp only at ae au⊢;generalize aB:s2.heap.push {cls:= .type "list",dict:=U_,data:= .seq ([]:oj o6).toArray}=h3 at ae au I3⊢;let hC:h3.objs.size=D+1:=by rw[<-aB,vo,hD]
 let af:∀b o,h3.get? b=u_ o->h4.get? b=u_ o:=λb o e=>au.extBut b o (uM (uD e)) (ug _ e);let aa:∀b o,s2.heap.get? b=u_ o->h3.get? b=u_ o:=λb o e=>by rw[<-aB];exact ug _ e
 let aw:∀b>fp,∃o,s2.heap.get? b=u_ o:=λb O=>let⟨o,e,_⟩:=T.obj _ _ aq b O;[o:e];let aH:∀b>fp,b≠D:=λb O z=>by
  erw[aw b O,o,e];let q:=uD e;rw[z,hD] at q;exact vC _ q
 let f3:∀b>fp,B6 X oq (upd H2 D (.lst [])) b:=λb O=>⟨by rw[qk (aH b O)];exact(f2 b O).1,(f2 b O).2⟩
 let IB:=AbD (C:=h3.objs.size) (h4:=h4) (tk:=s2.toks+↑([]:oj (Str×o6))) (fp:=fp) S I3 rfl ae af f3 λb O=>let⟨o,e⟩:=aw b O;[o:aa b o e];generalize U:blk X scope Nb (nR X.env.cells scope.names []) h3.objs.size {s2 with heap:=h3} (upd H2 D (.lst [])) fp (X.pn++oq)=Xb at IB
 let gB:=hg (nR X.env.cells scope.names []) h3.objs.size {s2 with heap:=h3} (upd H2 D (.lst [])) fp (X.pn++oq)
 let cB:=hc (nR X.env.cells scope.names []) h3.objs.size {s2 with heap:=h3} (upd H2 D (.lst [])) fp (X.pn++oq)
 let eB:=he (nR X.env.cells scope.names []) h3.objs.size {s2 with heap:=h3} (upd H2 D (.lst [])) fp (X.pn++oq)
 rw[U] at gB cB eB;let xP:Xb.prog=X.prog:=by rw[<-U]
 let xW:Xb.w=X.w:=by rw[<-U]
 let xK:Xb.K=X.K:=by rw[<-U]
 let xA:Xb.A=X.A:=by rw[<-U]
 let xC:Xb.calm=true:=by rwa[<-U]
 let xE:Xb.env=FX scope (nR X.env.cells scope.names []) h3.objs.size X.env:=by rw[<-U]
 let xX:Xb.xe=λ_ _=>False:=by rw[<-U]
 let ag:∀{H':Hp},(∀b>fp,H' b=U_)->∀b>fp,B6 Xb [] H' b:=λhn b O=>by
  erw[f2 b O,g1,g2,g3,g4,g5,g6];erw[aw b O,o,e];subst U;rw[_,hn b O,λz=>?_,λz=>(Ab.mp (I2.stkSub b z)).elim g2 g3,.inl O,λx c ec=>g5 x c (qas (λy c e=>by simp at e) x c ec),λp hp=>g6 p (by simpa using hp)]
  let ad:=uD (aa b o e);let z':b=h3.objs.size:=z;rw[z'] at ad;exact vC _ ad
 let ak:∀s5:o7,s5={s2 with heap:=h4,toks:=s2.toks+↑([]:oj (Str×o6))}->
   G9 #[X,X] X.A (.compLoop (.ListComp am [(tg,ac,ao,(0))] scope pos) 0 (-it) (-D) (FX scope (nR X.env.cells scope.names []) h3.objs.size X.env))
    (R (-D) h3.objs.size) s5:=by
  rintro s5 rfl;refine BS (λk s'=>∃i σ' ys H',Inv Xb [] σ' H' s'/\tn i s'.heap/\(∀b>fp,H' b=U_)/\H' D=u_ (.lst ys)/\i<=n/\k=n-i/\↑ys<=i/\W i σ' ys H') ?_ n
   ((0),Aaq nt fr σ,[],_,IB,T.keep _ _ _ aq λb O o e=>af b o (aa b o e),λb O=>(f3 b O).1,qg,uN _,1,Vv _,w0)
  rintro k s' ⟨i,σ',ys,H',I',aC,aD,aE,aI,rfl,aJ,w'⟩;rcases Ua i n with ad|aK
  .erw[step i σ' ys H' ad w' aE aJ,go,next];let ti:=T.item Xb xP xW xK xC i [] s' σ' H' (λ_ _=>False) I' (ag aD) aC go;rw[xA] at ti;refine vz ti (λr s1 h1=>?_) λ_ _ z=>z.elim;erw[h1,u,rfl,h1];refine vz h1 (λ_ aF aL=>?_) λ_ _ z=>z.elim;erw[aL,x,H5,I5,r5,y5,ax,aM];let aN:=I5.pinned (ag aM) (T.obj _ _ ax);let ga:=gB _ aF σ' H5 x u _ aN r5 (next x H5 y5);rw[xP,xW,xA,xE,xX] at ga;refine vz ga (λ_ s3 aO=>?_) λ_ _ z=>z.elim;erw[aO,σ6,H6,I6,q6];let ca:=cB _ s3 σ6 H6 _ I6 q6;rw[xP,xW,xA,xE,xX] at ca;refine vz ca (λok s4 aP=>?_) λ_ _ z=>z.elim;erw[aP,H7,I7,q7];let al:∀{σ8:St}{H8:Hp}{s8:o7},Inv Xb ([]++sX fp aF.heap) σ8 H8 s8->Inv Xb [] σ8 H8 s8/\tn (i+1) s8.heap/\∀b>fp,H8 b=none:=λ{σ8 H8 s8} I8=>by
    rw[_,I8.unpinned,T.keep _ _ _ ax λb O o e=>(I8.pin (b,o) (uV _ (uV _ (xp O e)))).1,λb O=>?_];erw[T.obj _ _ ax b O,o,e,d,<-(I8.pin (b,o) (uV _ (uV _ (xp O e)))).2.1]
   cases ok with
   |false=>
    rw[A4 uh] at q7⊢;erw[al I7,b1,b2,b3,<-(n-(i+1),(),i+1,σ6,ys,H7,b1,b2,b3,q7.1,ad,1,(),q7.2)]
   |true=>
    rw[A6 rfl] at q7⊢;let ea:=eB _ s4 σ6 H7 _ I7 q7;rw[xP,xW,xA,xE,xX] at ea;refine vz ea (λy s5 h5=>?_) λ_ _ z=>z.elim;erw[h5,yv,H8,I8,r8,aQ,q8];let ma:=jv (X:=Xb) _ s5 σ6 H8 (-D) [yv] (-D) [y] (λ_ H9=>H9=upd H8 D (.lst (ys++ [yv]))) I8 rfl (.cons r8 .nil) (D,ys,yv,1,1,aQ,(),1)
    rw[xP,xW,xA,xX] at ma;refine vz ma (λ_ s6 h6=>?_) λ_ _ z=>z.elim;erw[h6,_,H9,I9,_,rfl];erw[al I9,b1,b2,b3,<-(n-(i+1),(),i+1,σ6,ys++ [yv],_,b1,b2,b3,qg,ad,1,by rw[uE,Uh];omega,q8)]
  .let aG:i=n:=Nat.le_antisymm aI aK;subst aG;erw[fin σ' ys H' w' aE,stop,hq];let td:=T.done Xb xP xW xK xC i [] s' σ' H' (λ_ _=>False) I' (ag aD) aC stop;rw[xA] at td;refine vz td (λr s1 h1=>?_) λ_ _ z=>z.elim;erw[h1,rfl,I6];erw[id I6.loc,m,hm,_];rw[xE] at hm;let aR:H' h3.objs.size=none:=by have:=I6.free;rwa[xE] at this
   let u6:Un (frs X.stack) fp (upd H2 D (.lst [])) H' h3 s1.heap:=by have:=I6.base;subst U;exact this
   let u2:Un (frs X.stack) fp H2 (upd H2 D (.lst [])) s2.heap h3:=Un.laid (λb o e=>aa b o e) (by rw[hD];exact Vv _) aA
   let aS:s1.os=s2.os:=by have:=I6.os;subst U;exact this
   let hok:HOk X.prog X.w H' s1.heap:=by
    have:=I6.hok;subst U;exact this
   refine hR D h3.objs.size H' s1 m (I2.call' (s':=s1) (ch:=fp) aS (u2.trans u6) hok I6.bare λb O=>?_) hm (I2.fpOk () aR) hq
   erw[f2 b O,g1,g2,g3,g4,g5,g6,<-(g4,g2,g5,g6)]
 exact codeAny_compStart_list (ak _ rfl) (T.self _ 0 _ _ _ (T.keep _ _ _ aq λb O o e=>af b o (aa b o e)) (ak _ rfl))
def zW {tg O ac:Expr}{ad:oj Expr}{wi:TI}{g:TG}{tc:TT}{te:TE}{pos:Pos}(S:LcS X scope Nb nt fr)(U:X.calm=v_)(hi:PI X tg O wi)
  (hg:∀cl C s₀ H₀ fp pn,PG (blk X scope Nb cl C s₀ H₀ fp pn) tg g) (hc:∀cl C s₀ H₀ fp pn,Aeo (blk X scope Nb cl C s₀ H₀ fp pn) ad tc) (he:∀cl C s₀ H₀ fp pn,PE (blk X scope Nb cl C s₀ H₀ fp pn) ac te)
  (hs:∀x,TU O X.env x=pure x):PE X (.ListComp ac [(tg,O,ad,(0))] scope pos) (tLC nt fr wi g tc te):=by
 rw[2,Q,I,h];let aa:tU scope X.env=pure (nR X.env.cells scope.names []):=Ki λy hy=>I.ok.has y (.inl (S.free _ hy rfl));rw[eval_ListComp];refine pL (use:=U_) rfl hs aa S.kind S.names ?_;refine IP (R:=λae C=>compPost #[X,X] X.A X.xe U_ (EP X oq σ Q) ae C) S U hi hg hc he I h λD C H' s1 m I1 hm fc q=>?_;erw[fc,f0,f1,f2,f3,f4,f5,<-[m:hm:λh' af=>(-D,H',I1.turned (t':=s1.toks) (it:=C) (λb o hb e=>(af.2 b hb).trans e) f0 f1 f3 f4 f5,1,q)]]
def KZ {i:Nat}{y:Str}{tg O U:Expr}{aa:oj Expr}{wi:TI}{g:TG}{tc:TT}{te:TE}{pos ac py:Pos}(hN:X.N.Nodup)(af:X.N[i]? =u_ y)(hy:Loc X.env.scope y)(S:LcS X scope Nb nt fr)(ad:X.calm=v_)(hi:PI X tg O wi)
  (hg:∀cl C s₀ H₀ fp pn,PG (blk X scope Nb cl C s₀ H₀ fp pn) tg g) (hc:∀cl C s₀ H₀ fp pn,Aeo (blk X scope Nb cl C s₀ H₀ fp pn) aa tc) (he:∀cl C s₀ H₀ fp pn,PE (blk X scope Nb cl C s₀ H₀ fp pn) U te)
  (hs:∀x,TU O X.env x=pure x) (ag:Ht (.ListComp U [(tg,O,aa,(0))] scope pos) (u_ (.Name y py)) ac.line X.env=pure v_)
  (hf:X.fn y=v_\/X.env.scope.names.lookup y=u_ .local):
  PS X (.Assign [.Name y py] (.ListComp U [(tg,O,aa,(0))] scope pos) ac) (Ae3 (tLC nt fr wi g tc te) (jG i)):=by
 rw[2,D,I,h];let ae:tU scope X.env=pure (nR X.env.cells scope.names []):=Ki λy hy=>I.ok.has y (.inl (S.free _ hy rfl));rw[exec_Assign_Name_used _ _ _ _ ag];refine A8 (Tn (A8 ?_));show Vu _ X.A (do let _<-comprehension (.ListComp U [(tg,O,aa,(0))] scope pos) scope X.env _ (tO []) Vt (eval O X.env) (u_ (GN (.Name y py) X.env))) _ _ s
 refine A8 (vz (pL (use:=u_ (GN (.Name y py) X.env)) (Q:=λ_ s'=>SP X oq D .next s') rfl hs ae S.kind S.names ?_) (λ_ s' hq=>uu (uu hq)) λ_ _ e=>e);refine IP (R:=λah C=>compPost #[X,X] X.A X.xe (u_ (GN (.Name y py) X.env)) (λ_ s'=>SP X oq D .next s') ah C) S ad hi hg hc he I h λA C H' s1 m I1 hm fc q=>?_;erw[fc,f0,f1,f2,f3,f4,f5];show Vu _ X.A (GN (.Name y py) X.env (-A)) _ _ s1;refine rE (su (v:=-A) I1 hN af hy (show ii (-A) (-A) from rfl) (λs' I' zq=>?_) hf);erw[zq,a,sb,ha]
 let ak:C≠a:=by
  rcases ha with rfl|ha
  .exact f1
  .exact λz=>f4 y a ha z.symm
 refine[m:hm.sameBut sb ak:λh' al=>(_,H',I'.turned (t':=s'.toks) (it:=C) (λb o hb e=>(al.2 b hb).trans e) f0 f1 f3 f4 f5,q)]
end
def Acn {X:Cx}{sc:VV}{x:Str}(O:sc.kind= .function:=by rfl)(U:∀y>sc.names,y.2≠ .cell:=by rw[12])(hn:∀y>sc.names,y.2= .local->sc.names.lookup y.1=u_ .local:=by rw[12])
  (hf:∀y>sc.names,y.2≠ .free:=by rw[12]):LcS X sc [x] 1 []:=(O,U,hn,λy hy e=>A9 e (hf y hy),1,λk j x h=>by simp at h)
def Mf {X:Cx}{sc:VV}{Nb:oj Str}{nt:Nat}{fr:oj Nat}(O:VV)(U:oj Str)(hX:X.env.scope=O:=by rfl)(hN:X.N=U:=by rfl)(hk:sc.kind= .function:=by rfl)(hc:∀y>sc.names,y.2≠ .cell:=by rw[12])
  (hn:∀y>sc.names,y.2= .local->sc.names.lookup y.1=u_ .local:=by rw[12]) (hf:∀y>sc.names,y.2= .free->O.names.lookup y.1=u_ .cell:=by rw[12]) (hl:↑Nb=nt+↑fr:=by rfl)
  (hz:((fr.zip (Nb.drop nt)).all λp=>decide (U[p.1]? =u_ p.2)&&decide (sc.names.lookup p.2=u_ .free))=true:=by rw[12]):LcS X sc Nb nt fr:=by
 subst hX hN;rw[_,hk,hc,hn,hf,hl,λk j x h1 h2=>?_];let hm:(fr.zip (Nb.drop nt))[k]? =u_ (j,x):=by
  rw[vW];exact⟨h1,by rwa[List.getElem?_drop]⟩
 let q:=List.all_eq_true.mp hz _ (uL hm);rw[uB] at q;exact[uq q.1:uq q.2]
def AdJ {z:Str}{D:o3}{H1:Hp}{te:TE}{tl:St}{Q:VK}(f:Nat->V)(hz:↑z<=Vw)(hD:H1 D=U_)
  (O:∀(i c:Nat) H (R:VK),z.cps[i]? =u_ c->ie H1 H->R (f c) H->te (u_ (.str ⟨#[c]⟩)::tl) H R)
  (hQ:∀H',ie H1 H'->H' D=u_ (.lst (z.cps.toList.map f))->Q (-D) H'):Mg D (Its z) (jG 0) Di te (U_::tl) H1 Q:=by
 rw[_,z.cps.size,λi σ ys H=>(∃w,σ=w::tl)/\ys=(z.cps.toList.take i).map f/\ie H1 H,hz,[[U_:1]:1:qf hD _],?_,?_]
 .rintro i σ ys H hi ⟨⟨w,rfl⟩,rfl,sm⟩ U hy;rw[_,hi];rintro x H' ⟨rfl,c,hc,rfl⟩;dsimp![jG,Di,HQ];rw[A6 rfl];refine O i c H' _ hc sm (U,[u_ (.str ⟨#[c]⟩):1],?_,?_)
  .rw[vk,show z.cps.toList[i]? =u_ c by simpa using hc]
   simp
  .intro b o e;rw[qk (qi e hD)];exact sm b o e
 .rintro σ ys H ⟨_,rfl,sm⟩ U;rw[1,hQ H sm ?_];rw[U,vj (by simp)]
inductive IsT (H:Hp)(p:List V->Prop)(v:V):Prop
 |mk (a:Addr)(vs:List V)(_:v=-a)(_:H a=u_ (¬vs))(_:p vs)
inductive IsC (p:V->Prop)(q:List V->Prop)(vs:List V):Prop
 |mk (v:V)(r:List V)(_:vs=v::r)(_:p v)(_:q r)
mutual
noncomputable def Is (H:Hp):D->V->Prop
 | .non,v=>v= .non| .bl b,v=>v= .bl b| .int i,v=>v= .int i| .str z,v=>v= .str z/\↑z<=Vw| .lst,v=>∃a xs,v= .ref a/\H a=u_ (.lst xs)| .dct,v=>∃a kvs,v= .ref a/\H a=u_ (.dK kvs)| .tup xs,v=>IsT H (IsL H xs) v
noncomputable def IsL (H:Hp):oj D->oj V->Prop
 | [],vs=>vs= []|x::xs,vs=>IsC (Is H x) (IsL H xs) vs
end
structure Tk (H H':Hp):Prop where
 tup:∀b xs,H b=u_ (¬xs)->H' b=u_ (¬xs)
 lst:∀b xs,H b=u_ (.lst xs)->∃ys,H' b=u_ (.lst ys)
 dct:∀b xs,H b=u_ (.dK xs)->∃ys,H' b=u_ (.dK ys)
def ie.tk (s:ie H H'):Tk H H':=[λb xs e=>s b _ e:λb xs e=>[xs:s b _ e]:λb xs e=>[xs:s b _ e]]
def Tk.refl (H:Hp):Tk H H:=(ie.refl H).tk
def Tk.trans (a:Tk H H1)(b:Tk H1 H2):Tk H H2:=⟨λc xs e=>b.tup c xs (a.tup c xs e),λc xs e=>let⟨ys,e1⟩:=a.lst c xs e;b.lst c ys e1,λc xs e=>let⟨ys,e1⟩:=a.dct c xs e;b.dct c ys e1⟩
variable {xs ys:oj V}
def ll.tk (k:ll p H H')(h:H p=u_ (.lst xs))(h':H' p=u_ (.lst ys)):Tk H H':=by
 rw[_,λb zs e=>k b _ e λz=>?_,λb zs e=>?_,λb zs e=>[zs:k b _ e λz=>?_]]
 .rw[z,h,0] at e
 .by_cases z:b=p
  .exact[ys:z▸h']
  .exact[zs:k b _ e z]
 .rw[z,h,0] at e
mutual
theorem Is.mono {H H':Hp}(t:Tk H H'):∀{d:D}{v:V},Is H d v->Is H' d v
 | .non,_,h=>h| .bl _,_,h=>h| .int _,_,h=>h| .str _,_,h=>h| .lst,_,h=>by
  erw[h,a,vs,e,ha];erw[t.lst a vs ha,ys,q,<-(a,ys,e,q)]
 | .dct,_,h=>by
  erw[h,a,vs,e,ha];erw[t.dct a vs ha,ys,q,<-(a,ys,e,q)]
 | .tup xs,_,h=>by
  erw[h,a,vs,e,ha,O,<-(a,vs,e,t.tup a vs ha,IsL.mono t O)]
theorem IsL.mono {H H':Hp}(t:Tk H H'):∀{ds:oj D}{vs:oj V},IsL H ds vs->IsL H' ds vs
 | [],_,h=>h|_::_,_,h=>by
  erw[h,v,r,e,h1,h2,<-(v,r,e,Is.mono t h1,IsL.mono t h2)]
end
def IsL.length {H:Hp}:∀{ds:oj D}{vs:oj V},IsL H ds vs->↑vs=↑ds
 | [],_,h=>by rw[show _= [] from h,0];rfl|_::_,_,h=>by
  erw[h,v,r,rfl,_,h2];rw[uw,uw,IsL.length h2]
def IsL.get {H:Hp}:∀{ds:oj D}{vs:oj V}{i:Nat}{d:D},IsL H ds vs->ds[i]? =u_ d->∃v,vs[i]? =u_ v/\Is H d v
 | [],_,_,_,_,e=>by simp at e|x::_,_,0,d,h,e=>by
  erw[h,v,r,rfl,h1,_];have:x=d:=by simpa using e
  exact[v:1:this▸h1]
 |_::_,_,i+1,d,h,e=>by
  erw[h,v,r,rfl,_,h2];obtain⟨u,O,e2⟩:=IsL.get (i:=i) (d:=d) h2 (by simpa using e)
  exact⟨u,by simpa using O,e2⟩
def IsL.append {H:Hp}:∀{ds es:oj D}{vs us:oj V},IsL H ds vs->IsL H es us->IsL H (ds++es) (vs++us)
 | [],_,_,_,h,k=>by rw[show _= [] from h,0];exact k|_::_,_,_,_,h,k=>by
  erw[h,v,r,rfl,h1,h2,<-(v,0,h1,IsL.append h2 k)]
variable {v:V}
def IsL.one {d:D}(h:Is H d v):IsL H [d] [v]:=(v,[],1,h,1)
variable {ds:oj D}
def Is.new {vs:oj V}(h:IsL H ds vs)(O:H p=U_):Is (upd H p (¬vs)) (¬ds) (-p):=
 (p,vs,1,qg,h.mono (qf O _).tk)
abbrev tyD:D->o6
 | .non=> .type "NoneType"| .bl _=> .type "bool"| .int _=> .type "int"| .str _=> .type "str"| .lst=> .type "list"| .dct=> .type "dict"| .tup _=> .type "tuple"
def Is.ty {d:D}(h:Is H d v):B5 K H v (tyD d):=by
 cases d with
 |non=>rw[show v= .non from h,0];exact .non|bl b=>rw[show v= .bl b from h,0];exact .bl b|int i=>rw[show v= .int i from h,0];exact .int i|str z=>
  erw[h,rfl,_,<-!z]
 |lst=>
  erw[h,a,vs,rfl,ha,<-.lst ha]
 |dct=>
  erw[h,a,vs,rfl,ha,<-.dK ha]
 |tup xs=>
  erw[h,a,vs,rfl,ha,_,<-¬ha]
end L2
namespace PySem.AwM
open PySem.AutoSeq1 PySem.MeetsSeq PySem.MeetsSeq3
def qap (a:Int)(t:Tok)(l:o3)(items:Array o6)(n:Nat)(dd:om o3)(sl:Array (om o6)):
  Hf (Gg.«int.__rmul__» [[.int a t,-l]:[]]) (λ_ R s=>s.heap.get? l=u_ {cls:= .type "tuple",dict:=dd,data:= .seq items n,slots:=sl}/\R (.ok (.ret Value.notImplemented)) s):=
 .of_wp λprog w A R s h=>by erw[s,O,g,d,tk,os];erw[h,U,q];wp_walk;exact[0:q]
def tuple_mul (l:o3)(items:Array o6)(n:Nat)(dd:om o3)(sl:Array (om o6))(k:Int)(u:Tok)(h1:1<k)(h2:k<2^63)(ae:items.isEmpty=Vt)(hz:items.size*k.toNat<=Vw)
  (U:¬(decide (k< -(2^63))||decide (k≥2^63))=v_) (aa:¬(items.isEmpty||k==1)=v_) (ac:¬(decide (k<=0)||items.isEmpty)=v_) (ad:¬GT.gt ((items.size:Int)*k) ((2^63-1)/8)) (af:¬FU ((items.size:Int)*k)=v_)
  (ag:((VJ k.toNat items).foldl (·++ ·) #[]).size<=Vw):
  Hf (Gg.«tuple.__mul__» [[-l,.int k u]:[]]) (λ_ R s=>s.heap.get? l=u_ {cls:= .type "tuple",dict:=dd,data:= .seq items n,slots:=sl}/\
   R (.ok (.ret (VB #[0,s]))) {s with heap:=s.heap.push {cls:=Gj "tuple",data:=TW ((VJ k.toNat items).foldl (·++ ·) #[])},toks:=s.toks}):=
 .of_wp λprog w A R s h=>by
  erw[s,hp,g,d,tk,os];erw[h,O,h];let f1:=idx_int;let f2:=sub_tuple_tuple;let f3:=sub_list_list;let f4:=sub_tuple_list;let f5:=sub_list_tuple;
  wp_walk using Uc O
  rw[A4 U]
  wp_walk using Uc O
  rw[A4 aa]
  wp_walk using Uc O
  rw[A4 ac]
  wp_walk using Uc O
  rw[A4 ad]
  wp_walk using Uc O
  exact[0:h]
end PySem.AwM
namespace L2
open PySem PySem.Spec PyProof.Rows
section
variable {X:Cx}
def EZ:OpR X (VM .Gt) (λx y H Q=>∃i j,x= .str i/\y= .str j/\Q (.bl (decide (j.cps.toList<i.cps.toList))) H):=by
 rw[2,x,y,v,u,Q,I,O,U,h];erw[h,i,j,rfl,rfl,q];erw[O,t,rfl];erw[U,t',rfl,<-PySem.P.gt_str (Qp I q rfl)]
def AO (hc:X.calm=v_):yT X (.builtin "sum") (λxs H Q=>∃(p:o3) (ns:oj Int),xs= [-p]/\SqL X.K H p (ns.map V.int)/\Q (.int ns.sum) H):=by
 rw[2,xs,us,Q,I,r,h];erw[h,p,ns,rfl,hp,q];erw[jL r,u,rfl,ru];rw[ru,0];erw[I.list hp,its,rv,pl,hz];let hi:Hk its ns:=DM rv;erw[hi.allInts.items,ys,U];let O:s.heap.IsList p (intItems ys):=U▸pl.isList;refine uQ (n:=1) I.tk (sum_intListG (I.ok.hd hc) O λh' tk t' hk=>?_);intro htk;let e1:ns=ys.toList.map (·.1):=by
  let q1:=hi.numsOf;rw[<-nums_intItems,<-U];exact(show numsOf its.toArray.toList=ns from q1).symm
 let e2:preSum (numAt ys) ys.size=ns.sum:=by
  rw[preSum_eq,vj (by simp),e1]
 rw[e2];exact(.int ns.sum,H,I.kept hk,[t':1],q)
def Yv:fillsNumberSlot (.type "tuple") "mul"=pure false:=
 PySem.fillsNumberSlot_seq (id:="tuple.__mul__") (r:=u_ (.builtin "tuple.__rmul__")) F.slot_tuple_mul.lookup () F.slot_tuple_rmul.lookup ()
def JW:seqRepeat? (.type "tuple")=pure (u_ (.builtin "tuple.__mul__")):=by
 unfold seqRepeat?;rw[PySem.seqSlot_of (T:="tuple") (name:="__mul__") (id:="tuple.__mul__") F.slot_tuple_mul.lookup (),PySem.seqSlot_of (T:="tuple") (name:="__rmul__") (id:="tuple.__rmul__") F.slot_tuple_rmul.lookup ()];rfl
inductive Afb (K:PySem.W.Frag)(x:V)(y:V)(H:Hp)(Q:VK):Prop
 |mk (l:_)(k:_)(xs:_)(_:x=-l)(_:y= .int k)(_:SqT K H l xs)(_:xs≠ [])(_:1<k)(_:k<1000000)(_:↑xs*k.toNat<=Vw)(_:∀p,H p=U_->Q (-p) (upd H p (.tup (VJ k.toNat xs).flatten)))
def AaK:OpR X (Gf .Mult) (Afb X.K):=by
 rw[2,x,y,v,u,Q,I,rx,ry,h];erw[h,l,k,xs,rfl,rfl,hH,ae,h1,h2,hz,q];rw[rx,0];erw[ry,t,rfl];erw[I.tuple hH,its,r,p,z];erw[id p,[cls,dd,data,sl],e,hc,n,hd];simp only at hc hd;subst hc hd;let hl:=↑r;let aa:rZ (λx1 x2=>x1++x2) #[] (VJ k.toNat its.toArray)=(VJ k.toNat its).flatten.toArray:=by
  have:=AG its k.toNat [];rwa[pQ] at this
 let O:its.toArray.isEmpty=false:=by
  cases its with
  |nil=>exact A9 (vD hl) ae|cons a b=>rfl
 let af:(k==1)=false:=beq_eq_false_iff_ne.mpr ()
 let ad:(its.toArray.size:Int)*k<=sizeLine:=by
  let e1:k=((k.toNat:Nat):Int):=by omega
  rw[e1,uz,<-hl]
  exact_mod_cast hz
 let ac:(Vw:Int)<=(2^63-1)/8:=by decide
 let c1:¬(decide (k< -(2^63))||decide (k≥2^63))=true:=by
  rw[ub (),ub ()];exact uh
 let c2:¬(its.toArray.isEmpty||k==1)=true:=by rw[O,af];exact uh
 let c3:¬(decide (k<=0)||its.toArray.isEmpty)=true:=by rw[ub (),O];exact uh
 let c4:¬GT.gt ((its.toArray.size:Int)*k) ((2^63-1)/8):=by
  intro w;exact A9 (Int.lt_of_lt_of_le w ad) (Int.not_lt.mpr ac)
 let c5:¬FU ((its.toArray.size:Int)*k)=true:=by
  unfold FU;intro w;let w':=uq w;omega
 let c6:((VJ k.toNat its.toArray).foldl (·++ ·) #[]).size<=sizeLine:=by
  rwa[aa,uz,IM,<-hl,RF]
 refine V9 (T:="tuple") (U:="int") () p.typeIs (λs'=>Vq s' k t) Yv F.fills_int_mul UT JW F.slot_int_index.lookup
  (vw UT (Vq s k t) F.entry_int_rmul (F.args_int_rmul_2 _ _) (AwM.qap k t l its.toArray n dd sl)
   (e,1,p.typeIs,vw F.slot_tuple_mul p.typeIs F.entry_tuple_mul (F.args_tuple_mul_2 _ _) (AwM.tuple_mul l its.toArray n dd sl k t h1 () O (by rwa[uz,<-hl]) c1 c2 c3 c4 c5 c6) [e:?_]))
 rw[aa];rw[_,.ref #[0,s],_,I.laid (t':=s.toks) (o:= .tup (VJ k.toNat xs).flatten) (λb ob w=>ug _ w) (Vv _) ?_,1,q _ (I.hok.fresh (Vv _))];exact(by rwa[IM,RF],_,r.rep k.toNat,Hl _ _)
inductive MS (K:PySem.W.Frag)(x:V)(y:V)(H:Hp)(Q:VK):Prop
 |mk (a:_)(b:_)(xs:_)(ys:_)(_:x=-a)(_:y=-b)(_:SqT K H a xs)(_:SqT K H b ys)(_:↑xs+↑ys<=Vw)(_:(xs= []->Q (-b) H))(_:(xs≠ []->ys= []->Q (-a) H))(_:(xs≠ []->ys≠ []->∀p,H p=U_->Q (-p) (upd H p (.tup (xs++ys)))))
def XI:OpR X (Gf .Add) (MS X.K):=by
 rw[2,x,y,v,u,Q,I,U,ry,h];erw[h,a,b,xs,ys,rfl,rfl,ha,hb,hz,q0,q1,q2];by_cases O:xs= []
 .rw[U,0];rw[ry,0];erw[I.tuple ha,its,r1,p1,_];erw[I.tuple hb,aa,r2,p2,_];subst O;rw[r1,0];erw[id p1,[c1,d1,t1,l1],o1,e1,n1,f1];erw[id p2,[c2,d2,t2,l2],o2,e2,n2,f2];simp only at e1 f1 e2 f2;subst e1 f1 e2 f2;exact FY p1.typeIs p2.typeIs TD rn PySem.F.slot_tuple_add Vg (Vf _ _) (tuple_addW0 a b _ _ n1 n2 d1 d2 l1 l2 rfl) [o1:o2:(-b,H,I,1,q0 rfl)]
 .exact AaP oq s σ H (-a) (-b) v u Q I U ry (a,b,xs,ys,1,1,ha,hb,O,hz,q1 O,q2 O)
end
variable {H:Hp}{p:o3}{xs ys:oj V}
def Tk.updL (h:H p=u_ (.lst xs)):Tk H (upd H p (.lst ys)):=by
 rw[_,λb zs e=>?_,λb zs e=>?_,λb zs e=>[zs:?_]]
 .rw[qk (λz=>by rw[z,h,0] at e)];exact e
 .by_cases z:b=p
  .exact⟨ys,by rw[z];exact qg⟩
  .exact⟨zs,by rwa[qk z]⟩
 .rw[qk (λz=>by rw[z,h,0] at e)];exact e
def IO {J:It}{A:o3}{H1:Hp}{te:TE}{tl:St}{Q:VK}{ds:oj D}(f:D->D)(hn:↑ds<=Vw)(hA:H1 A=U_)
  (aa:∀i H,ie H1 H->i<↑ds->J.go i H) (hy:∀i H x H' d,ie H1 H->ds[i]? =u_ d->J.yld i H x H'->H'=H/\Is H d x) (U:∀H,ie H1 H->J.stop ↑ds H)
  (ac:∀d x H (R:VK),d>ds->ie H1 H->Is H d x->(∀y H',ie H H'->Is H' (f d) y->R y H')->te (u_ x::tl) H R)
  (hQ:∀H' ys,ie H1 H'->H' A=u_ (.lst ys)->IsL H' (ds.map f) ys->Q (-A) H'):Mg A J (jG 0) Di te (U_::tl) H1 Q:=by
 rw[_,↑ds,λi σ ys H=>(∃w,σ=w::tl)/\IsL H ((ds.take i).map f) ys/\ie H1 H,hn,[[U_:1]:1:qf hA _],?_,?_]
 .rintro i σ ys H hi ⟨⟨w,rfl⟩,hl,sm⟩ O ae;rw[_,aa i H sm hi,λx H' y=>?_];erw[hy i H x H' ds[i] sm (um hi) y,rfl,hx];dsimp![jG,Di,HQ];rw[A6 rfl];refine ac ds[i] x H' _ (v9 hi) sm hx λy' H4 s4 ad=>(s4 _ _ O,[u_ x:1],?_,λb o e=>?_)
  .let t:Tk H4 (upd H4 A (.lst (ys++ [y']))):=Tk.updL (s4 _ _ O);let e:(ds.take (i+1)).map f=(ds.take i).map f++ [f ds[i]]:=by
    rw[vk,um hi,uA]
    rfl
   rw[e];exact((hl.mono s4.tk).mono t).append (IsL.one (ad.mono t))
  .rw[qk (qi e hA)];exact s4 b o (sm b o e)
 .rintro σ ys H ⟨_,hl,sm⟩ O;rw[_,U H sm,hQ H ys sm O ?_];rwa[vj (Vv _)] at hl
def BH {K:o0}{a A:o3}{H1:Hp}{te:TE}{tl:St}{Q:VK}{ds:oj D}{vs:oj V}(f:D->D)(ha:H1 a=u_ (¬vs))(U:IsL H1 ds vs)(hn:↑ds<=Vw)(hA:H1 A=U_)
  (O:∀d x H (R:VK),d>ds->ie H1 H->Is H d x->(∀y H',ie H H'->Is H' (f d) y->R y H')->te (u_ x::tl) H R)
  (hQ:∀H' ys,ie H1 H'->H' A=u_ (.lst ys)->IsL H' (ds.map f) ys->Q (-A) H'):Mg A (Itt K a) (jG 0) Di te (U_::tl) H1 Q:=by
 let ln:=↑U;refine IO f hn hA (λi H sm hi=>(vs,vs[i]'(),SqT.of (sm _ _ ha),um _)) (λi H x H' d sm hd y=>?_) (λH sm=>[vs:SqT.of (sm _ _ ha):()]) O hQ
 erw[y,rfl,y];erw[U.get hd,v,e1,e2];let e3:=y vs (SqT.of (sm _ _ ha));rw[e1,0] at e3;exact[1:e2.mono sm.tk]
def IsL.bls {H:Hp}:∀{bs:oj Bool}{vs:oj V},IsL H (bs.map D.bl) vs->vs=bs.map V.bl
 | [],_,h=>h|_::_,_,h=>by
  erw[h,v,r,rfl,h1,h2];rw[IsL.bls h2,show v=_ from h1];rfl
variable {K:o0}{ds:oj D}{v:V}{Q:VK}
def XC {i:Int}{d:D}(h:Is H (¬ds) v)(hi:atI ds i=u_ d)(q:∀x,Is H d x->Q x H):AaB K v (.int i) H Q:=by
 erw[h,a,vs,rfl,ha,O];erw[qaH hi,j,h1,h2,h3,h4,h5];erw[O.get h2,x,e1,e2];rw[_,a,vs,i,x,1,1,SqT.of ha,?_,q x e2];let ln:=↑O;unfold atI at hi⊢;rw[ln];cases e:ixN ↑ds i with
 |none=>rw[e,0] at hi|some k=>
  rw[e] at hi;erw[BJ e,U,_];rw[h1,0] at U;exact e1
abbrev inS (i j:Str):Bool:= !(tj j i 0 ↑j 1).isEmpty
def AbE (j:Str)(c:Nat):inS ⟨#[c]⟩ j=decide (c>j.cps.toList):=StrLaws.found_one j c
def AbL {z:Str}{g:TG}{tb:TS}{E:mV}{σ:St}{H:Hp}(O:Nat->St->Hp->Prop)(h0:O 0 σ H)
  (hs:∀(i c:Nat) σ H,z.cps[i]? =u_ c->O i σ H->g (.str ⟨#[c]⟩) σ H λσ2 H2=>tb {E with nx:=O (i+1),ct:=O (i+1),bk:=E.nx} σ2 H2) (hd:∀σ H,O z.cps.size σ H->E.nx σ H):
  ∃W:Nat->Nat->St->Hp->Prop,(∃m,W 0 m σ H)/\∀i m σ H,W i m σ H->
   ((Its z).stop i H/\E.nx σ H)\/((Its z).go i H/\∃N:St->Hp->Prop,(∀σ' H',N σ' H'->∃m',m'<m/\W (i+1) m' σ' H')/\∀x H',(Its z).yld i H x H'->g x σ H' λσ2 H2=>tb {E with nx:=N,ct:=N,bk:=E.nx} σ2 H2):=by
 rw[_,λi m σ H=>m=z.cps.size-i/\i<=z.cps.size/\O i σ H,(z.cps.size,by simp,uN _,h0)]
 rintro i m σ H ⟨rfl,hi,p⟩;by_cases U:i<z.cps.size
 .refine .inr (U,O (i+1),λσ' H' p'=>(z.cps.size-(i+1),(),1,U,p'),λx H' y=>?_)
  erw[y,rfl,c,hc,rfl,<-hs i c σ _ hc p]
 .let e:i=z.cps.size:=by omega
  exact .inl [e:hd σ H (e▸p)]
def IsL.unsnoc {H:Hp}:∀{ds:oj D}{d:D}{vs:oj V},IsL H (ds++ [d]) vs->∃us x,vs=us++ [x]/\IsL H ds us/\Is H d x
 | [],d,_,h=>by
  erw[h,v,r,rfl,h1,h2];rw[show r= [] from h2,0]
  exact([],v,1,1,h1)
 |e::r,d,_,h=>by
  erw[h,v,q,rfl,h1,h2];erw[IsL.unsnoc h2,us,x,rfl,h3,h4,<-(v::us,x,1,(v,us,1,h1,h3),h4)]
abbrev isStr:D->Bool
 | .str _=>v_|_=>Vt
abbrev Zv:D->Bool
 | .tup _=>v_|_=>Vt
section
variable {K:o0}
def Sc {T U:String}{b:Bool}(h:(Gj T==Gj U)=Vt)(hm:PySem.W.kitMeta U=v_)(O:(fastBuiltinMro T).map (·.contains (Gj U))=u_ b):PySem.W.kitOne K (.type T) (.type U)=u_ b:=by
 unfold PySem.W.kitOne;rw[A4 (by rw[h];exact uh)]
 show(if PySem.W.kitMeta U=v_ then PySem.W.subIn K (.type T) (.type U) else U_)=u_ b
 rw[A6 hm];exact O
def CJ {T:String}(h:(Gj T==Gj T)=v_):PySem.W.kitOne K (.type T) (.type T)=u_ true:=by
 unfold PySem.W.kitOne;rw[A6 h]
def j0 (d:D):PySem.W.kitOne K (tyD d) (.type "str")=u_ (isStr d):=by
 cases d with
 |str z=>exact CJ ()|_=>exact Sc (b:=Vt) () () ()
def XL (d:D):PySem.W.kitOne K (tyD d) (.type "tuple")=u_ (Zv d):=by
 cases d with
 |tup z=>exact CJ ()|_=>exact Sc (b:=Vt) () () ()
end
def AdH (c k:Nat):decide ((⟨#[c]⟩:Str).cps.toList< [k])=decide (c<k):=by
 rw[vc];simp[TX]
def Adr (c k:Nat):decide ([k]<(⟨#[c]⟩:Str).cps.toList)=decide (k<c):=by
 rw[vc];simp[TX]
def AbB {X:Cx}{K:o0}(h:X.K=K):IxR X (AaB K):=by subst h;exact qJ
def NJ {X:Cx}{K:o0}(h:X.K=K):IxR X (Aff K):=by subst h;exact yu
inductive Aez (K:PySem.W.Frag)(R:(It->Hp->Prop))(x:V)(H1:Hp):Prop
 |mk (a:_)(xs:_)(_:x=-a)(_:SqT K H1 a xs)(_:(↑xs<=Vw->R (Itt K a) H1))
abbrev Afs (K:o0)(tl:TE):TI:=λσ H R=>tl σ H λx H1=>Aez K R x H1
def KM {X:Cx}{tg l:Expr}{tl:TE}(U:PE X l tl):PI X tg l (Afs X.K tl):=by
 rw[2,R,I,h];refine thn (U oq s σ H _ I h) λv s1 zq=>?_;erw[zq,x,H1,O,r1,q1];erw[q1,a,xs,e,hq,q];subst e;rw[r1,0];erw[O.tuple hq,its,rv,p,hz];refine FG (show s1.heap.IsTuple a its.toArray from p) ?_
 rw[_,#[0,s1],[#[0,s1]],_,_,H1,1,O.kept (t':=s1.toks) λb o e=>ug _ e,Ko a _,(_,uC _ rfl,1,1),λb hb=>?_,q hz];let e:b=#[0,s1]:=by simpa using hb
 subst e;exact O.fpOk (Vv _) (O.hok.fresh (Vv _))
variable {X:Cx}
def LY:yT X (.builtin "len") (λxs H Q=>∃p ys,xs= [-p]/\(SqL X.K H p ys\/SqT X.K H p ys)/\(↑ys<=Vw->Q (.int ↑ys) H)):=by
 rw[2,xs,us,Q,I,r,h];erw[h,p,ys,e,O,q];let hz:↑ys<=sizeLine:=by
  rcases O with O|O
  .exact(I.list O).choose_spec.2.2
  .exact(I.tuple O).choose_spec.2.2
 exact qN oq s σ H xs us Q I r (p,ys,e,O,q hz)
variable {n:Nat}
def AL (h:n<=↑xs):l6 xs (u_ (n:Int)) U_=xs.drop n:=by
 unfold l6;rw[HT.sIx_none,HT.sIx_nat,RB h];exact vj (by rw[Ug];exact Vv _)
end L2
namespace L2
open PySem PySem.Spec PyProof.Rows Builtin Builtin.Str
abbrev nu (c:Nat):oj Nat->Nat->oj Nat
 | [],_=> []|a::r,i=>if a=c then i::nu c r (i+1) else nu c r (i+1)
abbrev lc (c:Nat):Nat->oj Nat->oj (oj Nat)
 |0,L=> [L]|_+1,[]=> [[]]|n+1,a::r=>if a=c then []::lc c n r else match lc c (n+1) r with
  |p::q=>(a::p)::q| []=> [[a]]
abbrev ofL (l:oj Nat):Str:=⟨l.toArray⟩
def ye (z:Str):ofL z.cps.toList=z:=by
 unfold ofL;simp
def JJ (c:Nat):∀(n:Nat) (L:oj Nat),∃p q,lc c n L=p::q
 |0,L=>⟨L,[],by simp[lc]⟩|n+1,[]=>⟨[],[],by simp[lc]⟩|n+1,a::r=>by
  by_cases h:a=c
  .exact⟨[],lc c n r,by simp[lc,h]⟩
  .erw[JJ c (n+1) r,p,q,e,<-⟨a::p,q,by simp[lc,h,e]⟩]
def C9 {c:Nat}{n:Nat}{r:oj Nat}:∀{p:oj Nat},c∉p->lc c (n+1) (p++c::r)=p::lc c n r
 | [],_=>by simp[lc]|a::p,h=>by
  let h1:a≠c:=λe=>h (by simp[e])
  let O:=C9 (n:=n) (r:=r) (p:=p) (λz=>h (ui _ z));show lc c (n+1) (a::(p++c::r))=_;rw[lc,A4 h1,O]
def WF {c:Nat}{n:Nat}:∀{p:oj Nat},c∉p->lc c n p= [p]
 | [],_=>by cases n<;>simp[lc]|a::p,h=>by
  let h1:a≠c:=λe=>h (by simp[e])
  cases n with
  |zero=>simp[lc]|succ n=>
   let O:=WF (n:=n+1) (p:=p) (λz=>h (ui _ z));rw[lc,A4 h1,O]
def Dj (x:Str)(c i:Nat)(h:i<↑x):subAt x ⟨#[c]⟩ i=decide (x.cps.toList[i]? =u_ c):=by
 rw[pS];let O:i<↑x.cps.toList:=by simpa [GJ] using h
 let U:(x.cps.toList.drop i).take 1= [x.cps.toList[i]]:=by
  rw[vt O]
  rfl
 show((x.cps.toList.drop i).take 1== [c])=_;rw[U,um O];generalize x.cps.toList[i]=k;by_cases e:k=c
 .simp[e]
 .simp[e]
def Ak (x:Str)(c n:Nat):∀(m k:Nat) (found:Array Nat) (free:Nat),k+m=↑x+1->free<=k->
  (GK (HU k m) (found,free) (h_ x ⟨#[c]⟩ ↑x n)).run.fst.toList=found.toList++(nu c (x.cps.toList.drop k) k).take (n-found.size)
 |0,k,found,free,hk,_=>by
  let hl:↑x.cps.toList<=k:=by simp[GJ] at hk⊢;omega
  rw[UE hl];simp[nu]
 |m+1,k,found,free,hk,hf=>by
  rw[List.range'_succ,UQ];unfold h_;let ad:↑x.cps.toList=↑x:=by simp[GJ]
  by_cases aa:k<↑x
  .let ac:k<↑x.cps.toList:=by omega
   rw[vt ac];let hs:=Dj x c k aa;rw[um ac] at hs;by_cases e:x.cps.toList[k]=c
   .let O:subAt x ⟨#[c]⟩ k=true:=by rw[hs,e];simp
    by_cases hn:found.size<n
    .rw[A6 ⟨⟨[hn:hf],by show k+1<=↑x;omega⟩,O⟩]
     let U:=Ak x c n m (k+1) (found.push k) (k+1) () (Vv _)
     show(GK (HU (k+1) m) (found.push k,k+1) (h_ x ⟨#[c]⟩ ↑x n)).run.fst.toList=_;rw[U];rw[nu,A6 e,Array.toList_push,Rh];obtain⟨j,hj⟩:∃j,n-found.size=j+1:=[n-found.size-1:()]
     rw[hj,Vd,show n-(found.size+1)=j by omega]
     simp
    .rw[A4 (λz=>hn z.1.1.1)];let U:=Ak x c n m (k+1) found free () ()
     show(GK (HU (k+1) m) (found,free) (h_ x ⟨#[c]⟩ ↑x n)).run.fst.toList=_;rw[U,show n-found.size=0 by omega]
     simp
   .let O:¬subAt x ⟨#[c]⟩ k=true:=by rw[hs];intro z;exact e (uJ (uq z))
    rw[A4 (λz=>O z.2)];let U:=Ak x c n m (k+1) found free () ()
    show(GK (HU (k+1) m) (found,free) (h_ x ⟨#[c]⟩ ↑x n)).run.fst.toList=_;rw[U,nu,A4 e]
  .rw[A4 (λz=>aa (by have:=z.1.2;show k<↑x;let h1:k+1<=↑x:=this;omega))]
   let U:=Ak x c n m (k+1) found free () ()
   show(GK (HU (k+1) m) (found,free) (h_ x ⟨#[c]⟩ ↑x n)).run.fst.toList=_;rw[U];let h1:↑x.cps.toList<=k:=by omega
   rw[UE h1,UE ()]
   simp[nu]
def qaT (x:Str)(c n:Nat):occurrences x ⟨#[c]⟩ 0 ↑x n=(nu c x.cps.toList 0).take n:=by
 rw[Pu];have:=Ak x c n (↑x+1) 0 #[] 0 () (Vv _)
 simpa using this
abbrev att (p:oj Nat):oj (oj Nat)->oj (oj Nat)
 |q::r=>(p++q)::r| []=> [p]
def MZ (x:Str)(c:Nat):∀(m n a b:Nat),a<=b->b+m=↑x->
  Tf x 1 a ((nu c (x.cps.toList.drop b) b).take n)=(att ((x.cps.toList.drop a).take (b-a)) (lc c n (x.cps.toList.drop b))).map ofL:=by
 let ac:↑x.cps.toList=↑x:=by simp[GJ]
 let O:∀i j,strSub x i j=ofL ((x.cps.toList.drop i).take (j-i)):=λi j=>by
  rw[<-ye (strSub x i j),pV]
 intro m
 induction m with
 |zero=>
  intro n a b aa hb;let h1:x.cps.toList.drop b= []:=UE ()
  rw[h1];let e1:lc c n []= [[]]:=by cases n<;>simp[lc]
  rw[e1];simp![nu,TL,Tf,att,vg,ur,UR];rw[O,show ↑x-a=b-a by omega]
 |succ m ih=>
  intro n a b aa hb;let U:b<↑x.cps.toList:=by omega
  rw[vt U];cases n with
  |zero=>
   simp![rB,Tf,lc,att,ur,UR];rw[O,<-vt U];let e2:(x.cps.toList.drop a).take (↑x-a)=x.cps.toList.drop a:=vj (by rw[Ug];omega)
   let e3:x.cps.toList.drop b=(x.cps.toList.drop a).drop (b-a):=by rw[List.drop_drop];congr 1;omega
   rw[e2,e3,Rj]
  |succ n=>
   by_cases e:x.cps.toList[b]=c
   .rw[nu,A6 e,Vd,Tf,lc,A6 e];rw[ih n (b+1) (b+1) (Vv _) ()]
    erw[JJ c n (x.cps.toList.drop (b+1)),p,q,e2];rw[e2,O];simp[att]
   .rw[nu,A4 e,ih (n+1) a (b+1) () (),lc,A4 e]
    erw[JJ c (n+1) (x.cps.toList.drop (b+1)),p,q,e2];rw[e2];simp![att,ur]
    congr 2
    let e3:b+1-a=(b-a)+1:=by omega
    let hx:b-a<↑(x.cps.toList.drop a):=by rw[Ug];omega
    rw[e3,List.take_succ_eq_append_getElem hx];simp[show a+(b-a)=b by omega]
def sZ (x:Str)(c n:Nat):partsBetween x (occurrences x ⟨#[c]⟩ 0 ↑x n) 1=(lc c n x.cps.toList).map ofL:=by
 rw[StrLaws.partsBetween_eq,qaT];have:=MZ x c ↑x n 0 0 (Vv _) ()
 rw[Ts] at this;rw[this];erw[JJ c n x.cps.toList,p,q,e];rw[e];simp[att]
def WB {c:Nat}:∀{L:oj Nat}{i:Nat},nu c L i= []->c∉L
 | [],_,_=>by simp|a::r,i,h=>by
  by_cases e:a=c
  .simp[nu,e] at h
  .rw[nu,A4 e] at h;have:=WB h;simp[Uv e,this]
def zd:∀(l:oj Str) (k:Nat),im (l.map V.str) (strsFrom k l)
 | [],_=> .nil|x::r,k=> .cons [k:1] (zd r (k+1))
def wX:∀{l:oj Str}{us:oj o6},im (l.map V.str) us->∃ps:oj (Str×Tok),us=strValues ps/\#[17]=l
 | [],_,.nil=>[[]:1:1]|x::r,_,.cons ⟨t,e⟩ h=>by
  erw[wX h,ps,O,e2];subst e;exact⟨(x,t)::ps,by rw[O];rfl,by rw[ur,e2]⟩
def Kj (z:Str):¬g_ z<g_ " ":=by
 let h1:g_ " "=1:=by rw[12]
 rw[h1];unfold g_;split
 .omega
 .split<;>omega
def KP (c:Nat):∀(n:Nat) (L:oj Nat),↑(lc c n L)<=↑L+1
 |0,L=>by simp[lc]|n+1,[]=>by simp[lc]|n+1,a::r=>by
  by_cases h:a=c
  .have:=KP c n r;simp[lc,h];omega
  .have:=KP c (n+1) r;erw[JJ c (n+1) r,p,q,e];rw[e] at this;simp![lc,A4 h,e];simp at this⊢;omega
abbrev spl (n:Nat)(z:Str):oj Str:=(lc 32 n z.cps.toList).map ofL
def Ee (n:Nat)(z:Str):↑(spl n z)<=↑z+1:=by
 unfold spl;rw[uc];have:=KP 32 n z.cps.toList
 simpa [GJ] using this
def xu:(" ":Str)=⟨#[32]⟩:=by rw[12]
variable {z:Str}{n:Nat}
def Ed (hn:↑z<=n\/↑z<1\/True)(h:(occurrences z " " 0 ↑z n).isEmpty=v_)(h0:n≠0):spl n z= [z]:=by
 rw[xu,qaT,List.isEmpty_iff] at h;let h1:nu 32 z.cps.toList 0= []:=by
  cases e:nu 32 z.cps.toList 0 with
  |nil=>rfl|cons a r=>
   rw[e] at h;obtain⟨k,rfl⟩:∃k,n=k+1:=[n-1:()]
   simp at h
 unfold spl;rw[WF (WB h1)];simp[ye]
section
variable {X:Cx}
inductive Ac5 (x:V)(vs:List V)(H:Hp)(Q:VK):Prop
 |mk (z:_)(_:x= !z)(_:vs= [-" "])(_:↑z<=1000)(_:∀p,H p=U_->Q (-p) (upd H p (.lst ((spl (↑z+1) z).map V.str))))
variable {oq:#[16]}{σ:St}{H:Hp}{s:o7}{Q:VK}{ys:oj V}{its:oj o6}{t':Nat}
def xq (I:#[I])(O:im ys its)(hz:↑ys<=Vw)(q:∀p,H p=U_->Q (-p) (upd H p (.lst ys)))(U:0<t':=by ac_rfl):
  EP X oq σ Q (.ref #[0,s]) {s with heap:=s.heap.push {cls:= .type "list",data:= .seq its.toArray},toks:=t'}:=
 (.ref #[0,s],_,I.lnew O hz,1,q _ I.fresh)
def CD:MtM X "str.split" Ac5:=by
 rw[2,x,vs,v,us,Q,I,rx,rv,h];erw[h,z,rfl,rfl,hz,q];erw[rx,t,rfl];erw[rv.one,u,rfl,t',rfl];let O:↑z<=sizeLine:=by rw[uF];omega
 let one:spl (↑z+1) z= [z]->∀(T:Nat),0<T->EP X oq σ Q (.ref #[0,s]) {s with heap:=s.heap.push {cls:= .type "list",data:= .seq [G6 z t].toArray},toks:=T}:=λe T hT=>by
  rw[e] at q;exact xq (ys:= [V.str z]) I (.cons (show ii (V.str z) _ from[t:1]) .nil) (by show 1<=Vw;decide) q
 cases h1:(decide (↑z<(" ":Str).length)||decide (g_ z<g_ " ")) with
 |true=>
  refine vw vM (vT _ _ _) vE (Uk _ _) (PF z " " t t' h1) ?_;let h2:↑z<1:=by
   rw[Tv] at h1;rcases h1 with h1|h1
   .exact uq h1
   .exact A9 (uq h1) (Kj z)
  refine one ?_ s.toks I.tk;let e:z.cps.toList= []:=vD (by simpa [GJ] using h2)
  unfold spl;rw[e,lc];rw[<-ye z,e]
  rfl
 |false=>
  cases U:(occurrences z " " 0 ↑z (↑z+1)).isEmpty with
  |true=>
   refine vw vM (vT _ _ _) vE (Uk _ _) (RM z " " t t' h1 () U) ?_
   exact one (Ed (.inr (.inr trivial)) U ()) s.toks I.tk
  |false=>
   let hl:=Ee (↑z+1) z;let e:partsBetween z (occurrences z " " 0 ↑z (↑z+1)) (" ":Str).length=spl (↑z+1) z:=by
    rw[xu];exact sZ z 32 (↑z+1)
   refine vw vM (vT _ _ _) vE (Uk _ _) (rN z " " t t' h1 () U O (by rw[e,uF];omega)) ?_
   rw[e];exact xq I (zd _ _) (by rw[uc,uF];omega) q
def Xs (x y:Str)(k:Int)(t u v:Tok)(hk:(decide (k< -(2^63:Int))||decide (k≥2^63))=Vt)(h1:(decide (↑x<↑y)||decide (g_ x<g_ y))=Vt)(hy:(↑y==0)=Vt)
  (hf:(occurrences x y 0 ↑x (HV x k)).isEmpty=v_):Hf («str.split» [[.str x t,.str y u,.int k v]:[]]) (Pi x t):=by
 erw[Rt x y k t u v hk,U,O];refine .of_wp λprog w A R s h=>?_;rw[O,h1,hy,hf];show Vu _ _ (do rule "str.split.same-object";ret (<-tO [.str x t])) _ _ s
 exact A8 (UB (A8 (Vo (uu [0:h]) (by show 1<=Vw;decide))))
def Jp (x y:Str)(k:Int)(t u v:Tok)(hk:(decide (k< -(2^63:Int))||decide (k≥2^63))=Vt)(h1:(decide (↑x<↑y)||decide (g_ x<g_ y))=v_):
  Hf («str.split» [[.str x t,.str y u,.int k v]:[]]) (Pi x t):=by
 erw[Rt x y k t u v hk,U,O];refine .of_wp λprog w A R s h=>?_;rw[O,h1];show Vu _ _ (do rule "str.split.sep-cannot-occur";ret (<-tO [.str x t])) _ _ s
 exact A8 (UB (A8 (Vo (uu [0:h]) (by show 1<=Vw;decide))))
inductive Aaz (x:V)(vs:List V)(H:Hp)(Q:VK):Prop
 |mk (z:Str)(n:Nat)(_:x= !z)(_:vs= [-" ",.int (n:Int)])(_:↑z<=1000)(_:0<n)(_:n<=1000)(_:∀p,H p=U_->Q (-p) (upd H p (.lst ((spl n z).map V.str))))
def IE:MtM X "str.split" Aaz:=by
 rw[2,x,vs,v,us,Q,I,rx,rv,h];erw[h,z,n,rfl,rfl,hz,ac,hn,q];erw[rx,t,rfl];erw[Bg rv,u,u',rfl,[t',rfl],[U,rfl]];let aa:↑z<=sizeLine:=by rw[uF];omega
 let hk:(decide ((n:Int)< -(2^63:Int))||decide ((n:Int)≥2^63))=false:=by
  rw[ub (),ub ()];rfl
 let O:HV z (n:Int)=n:=by
  unfold HV;rw[A4 ()]
  omega
 let one:spl n z= [z]->∀(T:Nat),0<T->EP X oq σ Q (.ref #[0,s]) {s with heap:=s.heap.push {cls:= .type "list",data:= .seq [G6 z t].toArray},toks:=T}:=λe T hT=>by
  rw[e] at q;exact xq (ys:= [V.str z]) I (.cons (show ii (V.str z) _ from[t:1]) .nil) (by show 1<=Vw;decide) q
 cases h1:(decide (↑z<(" ":Str).length)||decide (g_ z<g_ " ")) with
 |true=>
  refine vw vM (vT _ _ _) vE (F.args_str_split_3 _ _ _) (Jp z " " n t t' U hk h1) ?_;let h2:↑z<1:=by
   rw[Tv] at h1;rcases h1 with h1|h1
   .exact uq h1
   .exact A9 (uq h1) (Kj z)
  refine one ?_ s.toks I.tk;let e:z.cps.toList= []:=vD (by simpa [GJ] using h2)
  obtain⟨j,rfl⟩:∃j,n=j+1:=[n-1:()]
  unfold spl;rw[e,lc];rw[<-ye z,e]
  rfl
 |false=>
  cases hf:(occurrences z " " 0 ↑z (HV z (n:Int))).isEmpty with
  |true=>
   refine vw vM (vT _ _ _) vE (F.args_str_split_3 _ _ _) (Xs z " " n t t' U hk h1 () hf) ?_
   rw[O] at hf;exact one (Ed (.inr (.inr trivial)) hf ()) s.toks I.tk
  |false=>
   let hl:=Ee n z;let e:partsBetween z (occurrences z " " 0 ↑z (HV z (n:Int))) (" ":Str).length=spl n z:=by
    rw[xu,O];exact sZ z 32 n
   refine vw vM (vT _ _ _) vE (F.args_str_split_3 _ _ _) (meets_str_split_sep_max z " " n t t' U hk h1 () hf aa (by rw[e,uF];omega)) ?_
   rw[e];exact xq I (zd _ _) (by rw[uc,uF];omega) q
abbrev xv (c:Nat):oj Nat->oj Nat
 | []=> []|a::r=>if a=c then [] else a::xv c r
def Az {c:Nat}:∀{L:oj Nat}{i j:Nat}{r:oj Nat},nu c L i=j::r->i<=j/\xv c L=L.take (j-i)
 | [],_,_,_,h=>by simp[nu] at h|a::q,i,j,r,h=>by
  by_cases e:a=c
  .rw[nu,A6 e,0] at h;exact⟨Vv _,by simp[xv,e]⟩
  .rw[nu,A4 e] at h;erw[Az h,h1,h2];rw[_,()]
   rw[xv,A4 e,h2,show j-i=(j-(i+1))+1 by omega,Vd]
def Zt {c:Nat}:∀{L:oj Nat},c∉L->xv c L=L
 | [],_=>rfl|a::r,h=>by
  let h1:a≠c:=λe=>h (by simp[e])
  rw[xv,A4 h1,Zt λz=>h (ui _ z)]
abbrev hd (z:Str):Str:=ofL (xv 32 z.cps.toList)
def Lu (I:#[I])(O:im ys its)(hz:↑ys<=Vw)(q:∀p,H p=U_->Q (-p) (upd H p (¬ys)))(U:0<t':=by ac_rfl):
  EP X oq σ Q (.ref #[0,s]) {s with heap:=s.heap.push {cls:= .type "tuple",data:= .seq its.toArray},toks:=t'}:=
 (.ref #[0,s],_,I.laid (o:=¬ys) (λ_ _ w=>ug _ w) (Vv _) (hz,its,O,Hl _ _),1,q _ I.fresh)
inductive Afd (x:V)(vs:List V)(H:Hp)(Q:VK):Prop
 |mk (z:_)(_:x= !z)(_:vs= [-" "])(_:↑z<=1000)(_:∀p a b,H p=U_->Q (-p) (upd H p (-[.str (hd z),!a,!b])))
def Abu:MtM X "str.partition" Afd:=by
 rw[2,x,vs,v,us,Q,I,rx,rv,h];erw[h,z,rfl,rfl,hz,q];erw[rx,t,rfl];erw[rv.one,u,rfl,t',rfl];let U:↑z<=sizeLine:=by rw[uF];omega
 refine vw F.slot_str_partition (vT _ _ _) F.entry_str_partition (F.args_str_partition_2 _ _) (meets_str_partition z " " t t' () U) ?_
 cases O:occurrences z " " 0 ↑z 1 with
 |nil=>
  let h0:hd z=z:=by
   rw[xu,qaT] at O;let h1:nu 32 z.cps.toList 0= []:=by
    cases e:nu 32 z.cps.toList 0 with
    |nil=>rfl|cons a r=>rw[e] at O;simp at O
   unfold hd;rw[Zt (WB h1),ye]
  refine Lu (ys:= [.str (hd z),!Hq,!Hq]) (t':=s.toks+1) I (.cons (show ii (V.str (hd z)) _ from⟨t,by rw[h0]⟩) (.cons (show ii (V.str _) _ from⟨0⟩) (.cons (show ii (V.str _) _ from⟨0⟩) .nil))) (by show 3<=Vw;decide) λp hp=>q p _ _ hp
 |cons i r=>
  let h0:hd z=strSub z 0 i:=by
   rw[xu,qaT] at O;cases e:nu 32 z.cps.toList 0 with
   |nil=>rw[e] at O;simp at O|cons a r'=>
    rw[e] at O;have:a=i:=by simp at O;exact O.1
    subst this;erw[Az e,_,h2];unfold hd;rw[h2,<-ye (strSub z 0 a),pV,Ts]
  refine Lu (ys:= [.str (hd z),-" ",.str _]) (t':=s.toks+1+1) I (.cons (show ii (V.str (hd z)) _ from⟨s.toks,by rw[h0]⟩) (.cons (show ii (V.str _) _ from[t':1]) (.cons (show ii (V.str _) _ from[s.toks+1:1]) .nil))) (by show 3<=Vw;decide) λp hp=>q p _ _ hp
inductive Ac7 (K:PySem.W.Frag)(x:V)(vs:List V)(H:Hp)(Q:VK):Prop
 |mk (sep:Str)(p:Addr)(l:List Str)(_:x= !sep)(_:vs= [-p])(_:SqL K H p (l.map V.str))(_:(l.map (·.length)).sum+↑l*↑sep<=1000000)(_:Q (.str (VF sep l)) H)
def qad:MtM X "str.join" (Ac7 X.K):=by
 rw[2,x,vs,v,us,Q,I,rx,rv,h];erw[h,sep,p,l,rfl,rfl,hp,hz,q];erw[rx,t,rfl];erw[rv.one,u,rfl,ru];rw[ru,0];erw[I.list hp,its,r,pl,hl];erw[wX r,ps,rfl,e2];let U:tooLong ((#[17]).toArray.foldl (·+ ·.length+↑sep) 0)=false:=by
  rw[e2];have:=P0 sep l;rw[this];unfold tooLong;refine ub ?_;rw[uF];omega
 refine vw F.slot_str_join (vT _ _ _) F.entry_str_join (F.args_str_join_2 _ _) (meets_str_join_list sep t p ps U) [pl.isList:?_];let O:(glued sep (#[17])).length<=sizeLine:=Py U
 match ps,e2,O with
 | [],e2,O=>
  subst e2;exact(O,.str _,H,I.tok _,⟨0⟩,q)
 | [a],e2,_=>
  subst e2;exact(.str _,H,I,[a.2:1],q)
 |a::b::r,e2,O=>
  subst e2;rw[_,O,.str _,H,I.tok _,⟨0⟩];rw[PU];exact q
def LZ:yT X (.type "int") (λxs H Q=>∃z n,xs= [!z]/\PySem.intText? z=u_ n/\↑z<=640/\Q (.int n) H):=by
 rw[2,xs,us,Q,I,r,h];erw[h,z,n,rfl,hn,O,q];erw[jL r,u,rfl,t,rfl,<-PySem.W.KIN.call_text hn O (.int n,H,I.tok _,⟨0⟩,q)]
end
end L2
namespace L2
open PySem PySem.Spec PyProof.Rows
variable {X:Cx}{oq:#[16]}{σ:St}{H:Hp}{s:o7}{h':o8}{t':Nat}{fp:oj o3}
def Inv.turnedL (I:#[I])(k:∀b o,b∉fp->s.heap.get? b=u_ o->h'.get? b=u_ o)(U:∀b>fp,B6 X oq H b)(ht:0<t':=by ac_rfl):Inv X oq σ H {s with heap:=h',toks:=t'}:=by
 let aa:∀b u,H b=u_ u->b∉fp:=λb u e z=>by
  have:=(U b z).1;rw[this,0] at e
 let nL:X.env.locals∉fp:=λz=>(U _ z).2.1 rfl;refine I.step (g':=s.gens) (d':=s.drawn) (ch:=fp) (λb hb=>((U b hb).2.2.2.1,(U b hb).2.1,(U b hb).2.2.2.2.1,(U b hb).2.2.2.2.2)) (λb o _ _ O e _=>k b o O e) (λb o _ _ O e _=>[o.slots:k b o O e]) (λ_ _ _ _ n=>n)
  (λb o O e=>[o:k b o O e]) (λ_ _ e=>e) (λ_ _ _ e=>e) (λb ps e=>⟨#[],by rw[e];simp⟩) (λm hm=>?_) (λb u e=>?_) I.bare
 .erw[hm,o,es,ep,ho,r,<-(o,es,ep,k _ o nL ho,r)]
 .refine(I.hok b u e).stay (λc v O q=>k c v ?_ q) (λ_ q=>q) λ_ _ q=>q;rcases O with z|z
  .rw[z];exact aa b u e
  .exact aa c _ z
def Inv.handed {X:Cx}{oq:#[16]}{σ:St}{H:Hp}{s:o7}{h':o8}{t':Nat}{fp:oj o3}{ys:oj V}{its:oj o6}(I:#[I])(hf:∀b>fp,B6 X oq H b)(hl:∀b>fp,b<#[0,s])(hv:im ys its)(hz:↑ys<=Vw)
  (hn:h'.get? #[0,s]=u_ {cls:= .type "tuple",data:= .seq its.toArray}) (hs:h'.objs.size=#[0,s]+1) (k:∀b o,b∉fp->s.heap.get? b=u_ o->h'.get? b=u_ o) (ht:0<t':=by ac_rfl):
  Inv X oq σ (upd H #[0,s] (¬ys)) {s with heap:=h',toks:=t'}/\∀b>fp,B6 X oq (upd H #[0,s] (¬ys)) b:=by
 let I1:Inv X oq σ (upd H #[0,s] (¬ys)) {s with heap:=s.heap.push {cls:= .type "tuple",data:= .seq its.toArray},toks:=t'}:=
  I.laid (o:=¬ys) (λ_ _ w=>ug _ w) (Vv _) (hz,its,hv,Hl _ _)
 let O:∀b>fp,B6 X oq (upd H #[0,s] (¬ys)) b:=λb U=>by
  erw[hf b U,f0,f1,f2,f3,f4,f5];have:=hl b U;exact(by rwa[qk (uM this)],f1,f2,f3,f4,f5)
 rw[_,I1.turnedL (h':=h') (t':=t') (λb o U e=>?_) O,O];rcases Heap.get?_push_cases (show(s.heap.push {cls:= .type "tuple",data:= .seq its.toArray}).get? b=u_ o from e) with⟨rfl,rfl⟩|e'
 .exact hn
 .exact k b o U e'
abbrev Itz (K:o0)(a b:o3):It:=
 ⟨λi H=>∃xs ys x y,SqT K H a xs/\SqL K H b ys/\xs[i]? =u_ x/\ys[i]? =u_ y,
  λi H v H'=>∃p x y,v= .ref p/\H p=U_/\H'=upd H p (-[x,y])/\(∀xs,SqT K H a xs->xs[i]? =u_ x)/\∀ys,SqL K H b ys->ys[i]? =u_ y,
  λi H=>∃xs,SqT K H a xs/\↑xs=i⟩
abbrev tnZ (a b z p r i j:o3)(k:Nat)(h:o8):Prop:=
 Gh h z p r .none/\VT h p (-i) (-j)/\(∃u v,VT h r u v)/\h.IsTupleIter i a k/\h.IsListIter j b k/\AwZ.Apt z p r i j a b
variable {w:og}{K:o0}{c:Nat}
def Mn {P:o9}{ac:oj Expr}{tp:Pos}(a b z p r i j:o3):Sw P w K (.Tuple ac c tp) (Itz K a b) [z,p,r,i,j] z (tnZ a b z p r i j) where
 mem:=by simp
 obj:=λk h st x hx=>by
  erw[st,h1,h2,[u,v,h3],[o4,e4,c4,d4],[o5,e5,c5,d5],D];simp![uH,vn,uU] at hx;rcases hx with rfl|rfl|rfl|rfl|rfl
  .exact⟨_,h1,λv z=>by rw[z,0]⟩
  .exact⟨_,h2,λv z=>by rw[z,0]⟩
  .exact⟨_,h3,λv z=>by rw[z,0]⟩
  .exact⟨o4,e4,λv z=>by rw[d4,0] at z⟩
  .exact⟨o5,e5,λv z=>by rw[d5,0] at z⟩
 keep:=λk h h' st kk=>by
  erw[st,h1,h2,[u,v,h3],[o4,e4,r4],[o5,e5,r5],D,<-(kk z (by simp) _ h1,kk p (by simp) _ h2,⟨u,v,kk r (by simp) _ h3⟩,⟨o4,kk i (by simp) _ e4,r4⟩,⟨o5,kk j (by simp) _ e5,r5⟩,D)]
 item:=by
  intro X hP hw hK O k oq s σ H E I hf st hg;subst hP hw hK;erw[hg,xs,ys,x,y,ha,hb,hx,hy];erw[I.tuple ha,its,ra,pa,za];erw[I.list hb,al,rb,pb,zb];erw[ra.get hx,ux,af,ag];erw[rb.get hy,uy,ah,ak];erw[st,h1,h2,[u,v,h3],h4,h5,D];let l1:=uD h1;let l2:=uD h2;let l3:=uD h3;let l4:i<#[0,s]:=by erw[h4,o,e,_,<-uD e]
  let l5:j<#[0,s]:=by erw[h5,o,e,_,<-uD e]
  refine AwZ.zip_go D h1 h2 h3 h4 h5 (show s.heap.IsTuple a its.toArray from pa) pb.isList (x:=ux) (y:=uy) (by simpa using af) (by simpa using ah) λh' g1 g2 g3 g4 g5 g6 g7=>?_
  let g8:VT h' p (-i) (-j):=g7 _ _ D.pz D.pr D.pi D.pj h2;obtain⟨I1,ad⟩:=I.handed (t':=s.toks) (ys:= [x,y]) (its:= [ux,uy]) hf (λc O=>by
   simp![uH,vn,uU] at O;rcases O with rfl|rfl|rfl|rfl|rfl<;>assumption) (.cons ag (.cons ak .nil)) (by show 2<=Vw;decide) g5 g6 (λc o O e=>by
    simp![uH,vn,uU,Vs] at O;exact g7 c o O.1 O.2.2.1 O.2.2.2.1 O.2.2.2.2 e)
  rw[0,wpAny_letOwnedTupleGo_zip (s:={s with heap:=h'}) g1 λae z2 s2=>?_]
  let U:∀c o,c≠z->h'.get? c=u_ o->ae.get? c=u_ o:=λc o O e=>s2.extBut c o O e;rw[_,.ref #[0,s],_,I1.turnedL (fp:= [z]) (h':=ae) (t':=s.toks) (λc o O e=>U c o (by simpa using O) e) (λc O=>ad c (by simp at O;simp[O])),1,(_,x,y,1,I.fresh,1,λzs aa=>?_,λzs aa=>?_),(z2,U _ _ D.pz g8,[_:_:U _ _ D.rz g2],?_,?_,D),λc O=>(ad c O).1]
  .rwa[I.tuple_inj aa ha]
  .rwa[I.list_inj aa hb]
  .erw[g3,o,e,q,<-[o:U _ _ D.iz e:q]]
  .erw[g4,o,e,q,<-[o:U _ _ D.jz e:q]]
 done:=by
  intro X hP hw hK O k oq s σ H E I hf st hg;subst hP hw hK;erw[hg,xs,ha,hx];erw[I.tuple ha,its,ra,pa,za];let hl:=↑ra;erw[st,h1,h2,[u,v,h3],h4,h5,D];refine AwZ.zip_stop (A:=X.A) (I.ok.hd O) D h1 h2 h4 (show s.heap.IsTuple a its.toArray from pa) (by simp;omega) λh' kk=>[1:?_]
  exact I.turnedL (t':=s.toks) (λc o O e=>by
   simp![uH,vn,uU,Vs] at O;exact kk c o O.1 O.2.2.1 O.2.2.2.1 O.2.2.2.2 e) hf
 self:=λ_ _ _ _ _ st h=>rV st.1 h
section
variable {X:Cx}
variable {n:Nat}
def Aed {a b:Nat}(ha:a<n)(O:b<n):AwZ.Apt (n+4) (n+2) (n+3) n (n+1) a b:=by
 constructor<;>exact(show _≠((_:Nat)) by omega)
def AbM {x:Nat}(h:x=n+4\/x=n+2\/x=n+3\/x=n\/x=n+1):n<=x:=by omega
abbrev AgM (K:o0)(ta:TA):TI:=λσ H R=>ta σ H λvs H1=>∃a b xs ys,vs= [-a,-b]/\SqT K H1 a xs/\SqL K H1 b ys/\R (Itz K a b) H1
def Adf {O:oj Expr}{c:Nat}{tp p pos:Pos}{e1 e2:Expr}{ta:TA}(hg:Gl X "zip")(hm:X.mg "zip"=U_)(ha:PA X [e1,e2] ta)(hs:VA [e1,e2] X.env= [(Vt,eval e1 X.env),(Vt,eval e2 X.env)])(U:VA [e2] X.env= [(Vt,eval e2 X.env)]):
  PI X (.Tuple O c tp) (.Call (.Name "zip" p) [e1,e2] [] pos) (AgM X.K ta):=by
 rw[2,R,I,h];refine T5 (x8 I hg hm boot_zip (vf (thn (ha pos oq s σ H _ I h) λus s1 zq=>?_) (by rw[hs,U]) (by rw[U];rfl)));erw[zq,vs,H1,I1,r1,q1]
 erw[q1,a,b,xs,ys,e,hA,hB,q];subst e;erw[Bg r1,u,u',rfl,ru,ac];rw[ru,0];rw[ac,0];erw[I1.tuple hA,its,ra,pa,za];erw[I1.list hB,ad,rb,pb,zb];let la:a<#[0,s1]:=by erw[id pa,o,e,_,<-uD e]
 let lb:b<#[0,s1]:=by erw[id pb,o,n,e,_,<-uD e]
 refine AwZ.zip_call (show s1.heap.IsTuple a its.toArray from pa) pb.isList λh2 g1 g2 g3 g4 g5 g6 g7=>?_
 refine rV (s:={s1 with heap:=h2}) g1 ?_
 rw[_,_,[#[0,s1]+4,#[0,s1]+2,#[0,s1]+3,#[0,s1],#[0,s1]+1],_,_,H1,1,I1.kept (t':=s1.toks) g7,Mn a b _ _ _ _ _,(g1,g2,[_:_:g3],g4,g5,?_),λx hx=>?_,q]
 .exact Aed la lb
 .let aa:#[0,s1]<=x:=by
   simp![uH,vn,uU] at hx;exact AbM hx
  exact I1.fpOk aa (I1.hok.fresh aa)
abbrev Md (K:o0)(w:og)(a:o3):Prop:=(a==VY)=Vt/\∃es n,K.lookup a=u_ (.type "dict",U_,.dict es n,#[])/\PySem.W.KeysLit w.params es.toList
inductive Afe (K:PySem.W.Frag)(w:World)(x:V)(y:V)(H:Hp)(Q:VK):Prop
 |mk (z:_)(a:_)(r:_)(_:x= !z)(_:y=-a)(_:Md K w a)(_:PySem.W.nsIn K a z=u_ r)(_:Q (.bl (!(r.isSome))) H)
def AaN:OpR X (VM .NotIn) (Afe X.K X.w):=by
 rw[2,x,y,v,u,Q,I,U,ry,h];erw[h,z,a,r,rfl,rfl,[hs,es,n,O,hk],hn,q];erw[U,t,rfl];rw[ry,0];let hm:=PySem.W.mapOf_K (prog:=X.prog) (w:=X.w) I.kIn O hk;refine pE (TY X.prog X.w z t) hs hm (.bl (!(r.isSome)),H,I.tok _,?_,q);rw[PySem.W.find_K O hn]
 rfl
inductive AgD (K:PySem.W.Frag)(w:World)(x:V)(y:V)(H:Hp)(Q:VK):Prop
 |mk (z:_)(a:_)(u:_)(v:_)(_:x=-a)(_:y= !z)(_:Md K w a)(_:PySem.W.nsIn K a z=u_ (u_ u))(_:ii v u)(_:Q v H)
def Age:IxR X (AgD X.K X.w):=by
 intro value slice oq s σ H x y v u Q I U ry h hs;erw[h,z,a,u',v',rfl,rfl,[_,es,n,O,hk],hn,hr,q];erw[ry,t,rfl];rw[U,0];let hm:=PySem.W.mapOf_K (prog:=X.prog) (w:=X.w) I.kIn O hk;exact Tz hm.typeIs slot_dict_getitem.lookup (Rc (TY X.prog X.w z t) hm (PySem.W.find_K O hn) (v',H,I.tok _,hr,q)) hs
end
section
variable {X:Cx}{K:o0}
def qaO (h:X.K=K):yT X (.builtin "len") (λxs H Q=>∃p ys,xs= [-p]/\(SqL K H p ys\/SqT K H p ys)/\Q (.int ↑ys) H):=by subst h;exact qN
def AaI {es:oj Expr}{k:Nat}{t:TGs}{n:Nat}{pos:Pos}(U:X.K=K)(hc:X.calm=v_)(h:PGs X es t)
  (hn:↑(GF es X.env)=n) (O:(GF es X.env).findIdx? (·.1)=U_):PG X (.Tuple es k pos) (Afz K n t):=by subst U;exact EL hc h hn O
end
def xr {lo:Int}{n:Nat}{L:o3}{H1:Hp}{te:TE}{tl:St}{Q:VK}(C:Nat->oj V->Hp->Prop)(hn:n<=Vw)(h0:C 0 [] (upd H1 L (.lst [])))
  (hs:∀i ys H,i<n->C i ys H->H L=u_ (.lst ys)->↑ys<=i->∀R:VK,(∀y H4,H4 L=u_ (.lst ys)->C (i+1) (ys++ [y]) (upd H4 L (.lst (ys++ [y])))->R y H4)->te (u_ (.int (lo+(i:Int)))::tl) H R)
  (hQ:∀ys H,C n ys H->H L=u_ (.lst ys)->Q (-L) H):Mg L (Itr lo n) (jG 0) Di te (U_::tl) H1 Q:=by
 rw[_,n,λi σ ys H=>(∃x,σ=x::tl)/\C i ys H,hn,[[U_:1]:h0],?_,?_]
 .rintro i σ ys H hi ⟨⟨x,rfl⟩,O⟩ U hy;rw[_,hi];rintro x' H' ⟨rfl,rfl⟩;dsimp![jG,Di,HQ];rw[A6 rfl];exact hs i ys H' hi O U hy _ λy H4 e c=>[e:⟨0⟩:c]
 .rintro σ ys H ⟨_,O⟩ U;exact[Vv _:hQ ys H O U]
def AdI {K:o0}{a b A:o3}{H1:Hp}{te:TE}{tl:St}{Q:VK}{xs ys:oj V}(f:Nat->D)(ha:∀H,ie H1 H->SqT K H a xs)(hb:∀H,ie H1 H->SqL K H b ys)(ad:↑xs=↑ys)(hn:↑xs<=Vw)(hA:H1 A=U_)
  (aa:∀i x y H (R:VK),xs[i]? =u_ x->ys[i]? =u_ y->ie H1 H->(∀v H',ie H H'->Is H' (f i) v->R v H')->te (u_ x::u_ y::tl) H R)
  (hQ:∀H' vs,ie H1 H'->H' A=u_ (.lst vs)->L2.IsL H' ((VN ↑xs).map f) vs->Q (-A) H'):Mg A (Itz K a b) (Afz K 2 (AbI (jG 0) (AbI (jG 1) Agg))) Di te (U_::U_::tl) H1 Q:=by
 rw[_,↑xs,λi σ us H=>(∃u v,σ=u::v::tl)/\L2.IsL H ((VN i).map f) us/\ie H1 H,hn,[[U_:U_:1]:1:qf hA _],?_,?_]
 .rintro i σ us H hi ⟨⟨u,v,rfl⟩,hl,sm⟩ O ae;let hx:xs[i]? =u_ xs[i]:=um hi;let hy:ys[i]? =u_ (ys[i]'()):=um _
  rw[_,(xs,ys,_,_,ha H sm,hb H sm,hx,hy),λx H' y=>?_];erw[y,p,x',y',rfl,hp,rfl,e1,e2];let e1:=e1 xs (ha H sm);let e2:=e2 ys (hb H sm);let s2:ie H (upd H p (-[x',y'])):=qf hp _;rw[_,p,0,SqT.of qg,1,x',0,y',0,1];dsimp![Di];rw[A6 rfl];refine aa i x' y' _ _ e1 e2 (sm.trans s2) λy4 H4 U ac=>(U _ _ (s2 _ _ O),[_:0],?_,λb o e=>?_)
  .let t:Tk H4 (upd H4 A (.lst (us++ [y4]))):=Tk.updL (U _ _ (s2 _ _ O));rw[Fk,uA];exact((hl.mono (s2.trans U).tk).mono t).append (IsL.one (ac.mono t))
  .rw[qk (qi e hA)];exact U b o (s2 b o (sm b o e))
 .rintro σ us H ⟨_,hl,sm⟩ O;exact[[xs:ha H sm:1]:hQ H us sm O hl]
def wB (z:Str)(l:oj Str):inV (!z) (l.map V.str)=decide (z>l):=by
 unfold inV;rw[tL,vF,Fc,uT];constructor
 .rintro⟨x,U,e⟩;let O:(x==z)=true:=e;rw[Vr] at O;exact O▸U
 .intro h;exact⟨z,h,by show(z==z)=v_;exact beq_self_eq_true z⟩
def Wa (l:oj Str):(l.map V.str).all wf=true:=by
 rw[US,U9];intro x _
 rfl
inductive Pt where
 |s (z:Str)|n (i:Int)
abbrev Pt.d:Pt->D
 | .s z=> !z| .n i=> .int i
abbrev Pt.t:Pt->Str
 | .s z=>z| .n i=>VH i
inductive Kd where
 |box|line|words
 deriving DecidableEq
abbrev Kd.t:Kd->Str
 | .box=>"box"| .line=>"line"| .words=>"words"
abbrev BX:oj Str:= ["a","b","c","d","e","f","g","h"]
abbrev FRM:oj (Str×oj Kd):= [("text",[.box,.words]),("self",[.box]),("copy",[.box,.box]),("row",[.box]),("put",[.box,.box]),("join",[.box,.box]),("first",[.box,.box]),("rest",[.box,.box]),
 ("size",[.box,.box]),("cut",[.box,.box,.box]),("glue",[.box,.box,.box]),("ask",[.box,.box]),("has",[.box,.box]),("names",[.box,.box]),("go",[.line]),("like",[.box,.box,.line]),
 ("rowed",[.box,.line]),("none",[.box,.line]),("say",[.box]),("fault",[])]
abbrev Ada (n m:Nat):Kd->Pt->Prop
 | .box,.s z=>z>BX| .line,.n i=>1<=i/\i<=n| .words,.s z=>↑z<=m/\z.cps.toList.all QD=v_|_,_=>False
abbrev Xv (n m:Nat):oj Kd->oj Pt->Prop
 | [],[]=>True|k::ks,p::ps=>Ada n m k p/\Xv n m ks ps|_,_=>False
nonrec abbrev Rw:=Str×oj Pt
abbrev jH (n m:Nat)(r:Rw):Prop:=∃ks,(r.1,ks)>FRM/\Xv n m ks r.2
abbrev txs (r:Rw):oj Str:=r.1::r.2.map Pt.t
abbrev yW (r:Rw):Str:=VF " " (txs r)
abbrev rowD (r:Rw):D:=-[.str r.1,.tup (r.2.map Pt.d)]
def Jt:∀(x y:Str) (r:oj Str),(VF " " (x::y::r)).cps.toList=x.cps.toList++32::(VF " " (y::r)).cps.toList:=by
 intro x y r;show((x.cps++(" ":Str).cps)++(VF " " (y::r)).cps).toList=_;rw[TV,TV,xu];simp
nonrec abbrev DU (z:Str):Prop:=32∉z.cps.toList
def KO:∀(l:oj Str) (z:Str) (n:Nat),(∀p>l,DU p)->(n=0\/DU z)->spl (↑l+n) (VF " " (l++ [z]))=l++ [z]
 | [],z,n,_,hz=>by
  show spl (0+n) z= [z];rw[HY];unfold spl;rcases hz with rfl|hz
  .rw[lc];show [ofL z.cps.toList]= [z];rw[ye]
  .rw[WF hz];show [ofL z.cps.toList]= [z];rw[ye]
 |p::l,z,n,hl,hz=>by
  let O:=KO l z n (λq U=>hl q (ui _ U)) hz;let hp:DU p:=hl p uj;obtain⟨y,r,e⟩:∃y r,l++ [z]=y::r:=by cases l<;>exact[_:0]
  show spl ((↑l+1)+n) (VF " " (p::(l++ [z])))=p::(l++ [z]);rw[e] at O⊢;unfold spl at O⊢;rw[Jt,show ↑l+1+n=(↑l+n)+1 by omega,C9 hp,ur,O,ye]
def AbF (w:Str)(r:oj Str)(h:DU w):hd (VF " " (w::r))=w:=by
 let O:∀(p q:oj Nat),32∉p->xv 32 (p++32::q)=p:=by
  intro p
  induction p with
  |nil=>intro q _;simp[xv]|cons a p U=>
   intro q h;let h1:a≠32:=λe=>h (by simp[e])
   show xv 32 (a::(p++32::q))=a::p;rw[xv,A4 h1,U q λz=>h (ui _ z)]
 cases r with
 |nil=>
  show ofL (xv 32 w.cps.toList)=w;rw[Zt h,ye]
 |cons y r=>
  unfold hd;rw[Jt,O _ _ h,ye]
def CL:∀(l:oj Str),l≠ []->(VF " " l).length+1=(l.map (·.length)).sum+↑l
 | [],h=>A9 rfl h| [x],_=>by simp[VF]|x::y::r,_=>by
  let O:=CL (y::r) (by simp)
  let e:(VF " " (x::y::r)).length=↑x+(1+(VF " " (y::r)).length):=by
   have:=Aa Gi (Jt x y r);rw[uE,uw] at this;simp![vi] at this;show(VF " " (x::y::r)).cps.size=_;rw[this];show x.cps.size+((VF " " (y::r)).cps.size+1)=x.cps.size+(1+(VF " " (y::r)).cps.size);omega
  rw[e,ur,V0,uw];omega
def Al {i:Int}(h1:1<=i)(h2:i<=40):↑(VH i:Str)<=2/\DU (VH i:Str)/\(VH i:Str).cps.toList.all QD=true:=by
 obtain⟨k,rfl⟩:∃k:Fin 41,i=((k.val:Nat):Int):=⟨[i.toNat:()],by simp;omega⟩
 let O:∀k:Fin 41,↑(VH ((k.val:Nat):Int):Str)<=2/\decide (DU (VH ((k.val:Nat):Int):Str))=v_/\(VH ((k.val:Nat):Int):Str).cps.toList.all QD=true:=by rw[12]
 erw[O k,a,b,c,<-[a:uq b:c]]
def qaf {i:Int}(h1:1<=i)(h2:i<=40):PySem.intText? (VH i:Str)=u_ i:=PySem.W.KIN.num_reads () ()
variable {z:Str}
def Sq (h:z>BX):↑z=1/\DU z/\z.cps.toList.all QD=true:=by
 let O:∀z>BX,↑z=1/\decide (DU z)=v_/\z.cps.toList.all QD=true:=by rw[12]
 erw[O z h,a,b,c,<-[a:uq b:c]]
def DZ:∀x>FRM,decide (DU x.1)=v_/\x.1.cps.toList.all QD=true:=by rw[12]
def AbK:∀x>FRM,(decide (Kd.words>x.2)=Vt)\/x=(("text":Str),[Kd.box,Kd.words]):=by rw[12]
def Lq:∀x>FRM,∀y>FRM,x.1=y.1->x=y:=by rw[12]
variable {n:Nat}
def sV {m:Nat}(hn:n<=40){k:Kd}{p:Pt}(h:Ada n m k p)(O:k≠ .words):DU p.t:=by
 cases k<;>cases p<;>simp![Ada] at h
 .exact(Sq h).2.1
 .exact(Al h.1 ()).2.1
 .exact A9 rfl O
def ZV {n m:Nat}:∀{ks:oj Kd}{ps:oj Pt},Xv n m ks ps->↑ps=↑ks
 | [],[],_=>rfl|_::_,_::_,h=>by rw[uw,uw,ZV h.2]| [],_::_,h=>h.elim|_::_,[],h=>h.elim
def kC {n m:Nat}(hn:n<=40):∀{ks:oj Kd}{ps:oj Pt},Xv n m ks ps->Kd.words∉ks->∀p>ps.map Pt.t,DU p
 | [],[],_,_=>λp O=>by simp at O|_::_,_::_,h,hk=>λp O=>by
  rw[ur] at O;rcases Ab.mp O with rfl|O
  .exact sV hn h.1 λe=>hk (by simp[e])
  .exact kC hn h.2 (λz=>hk (ui _ z)) p O
 | [],_::_,h,_=>h.elim|_::_,[],h,_=>h.elim
variable {r:Rw}
def Abw {m:Nat}(h:jH n m r):hd (yW r)=r.1:=by
 erw[h,ks,O,U,<-AbF _ _ (uq (DZ _ O).1)]
variable {ks:oj Kd}
def NG {m:Nat}(hn:n<=40)(hk:(r.1,ks)>FRM)(hp:Xv n m ks r.2):spl (if Kd.words>ks then ↑ks else(yW r).length+1) (yW r)=txs r:=by
 let hw:DU r.1:=uq (DZ _ hk).1;by_cases h:Kd.words>ks
 .rw[A6 h];rcases AbK _ hk with e|e
  .simp at e;exact A9 h e
  .let e1:ks= [.box,.words]:=Aa Prod.snd e;subst e1;erw[r,w,ps]
   match ps,hp with
   | [p,q],hp=>
    have:=KO [w,p.t] q.t 0 (λz hz=>by
     simp![uH,vn,uU] at hz;rcases hz with rfl|rfl
     .exact hw
     .exact sV hn hp.1 ()) (.inl rfl)
    exact this
 .rw[A4 h];let hf:∀p>txs r,DU p:=λp U=>by
   rcases Ab.mp U with rfl|U
   .exact hw
   .exact kC hn hp h p U
  rcases rJ (txs r) with e|⟨l,z,e⟩
  .simp[txs] at e
  .rw[Ry] at e;let O:=CL (txs r) (by simp[txs])
   unfold yW;rw[e] at hf O⊢;let hl:↑l<=(VF " " (l++ [z])).length:=by
    rw[uE] at O;simp![uw,TC] at O;omega
   have:=KO l z ((VF " " (l++ [z])).length+1-↑l) (λq hq=>hf q (vL _ hq)) (.inr (hf z (by simp)))
   rw[show ↑l+((VF " " (l++ [z])).length+1-↑l)=(VF " " (l++ [z])).length+1 by omega] at this
   exact this
abbrev VE:oj o6:= [.type "ValueError",.type "Exception",.type "BaseException",.type "object"]
abbrev CX1 (P:o9)(w:og):CXT:=λouter H s E e s'=>∃(ea C:o3) (a0:o6) (H':Hp) (B:o8),e= .ref ea/\s'.os=s.os/\GE s'.gens/\0<s'.toks/\Un (frs outer) [] H H' s.heap s'.heap/\HOk P w H' B/\
 FA B outer ea (-C) a0 s'.heap/\(∀b o,s.heap.get? b=u_ o->b∉frs outer->∃o',B.get? b=u_ o')/\E (-ea) (u_ C) H'
variable {h:o8}{C:o3}
set_option tactic.hygienic true in
def Aeb {bmB:oj o6}{newId:String}(X:K.In h)(q:PySem.W.excIn K C bmB newId=v_):
  ∃bm N nm qn bs hdct sn sub ab col dd k0 k1 k2 k3 k5 mN,h.get? C=u_ (excClassObj nm qn C N bs bm hdct sn sub ab col dd k0 k1 k2 k3 k5 newId)/\h.Ns N mN/\mN "__init__"=U_/\OwnTail h bmB bm:=by
 unfold PySem.W.excIn at q;split at q
 .rename_i dd cd sl ho
  split at q
  .rename_i C' bm k0 k1 k2 k3 n k5 hm hs
   simp![uB,Vr,ph] at q;erw[q,[[[[rfl,rfl],O],ht],hok],U];erw[cd,nm,bs,aa,ns,qn,hd,sn,sub,ab,col,ac];dsimp only at hm O hok U;subst hm O;obtain⟨l⟩:=sl;simp only at hs;subst hs;exact(bm,ns,nm,qn,bs,hd,sn,sub,ab,col,dd,k0,k1,k2,k3,k5,_,X _ _ ho,.of_isNs (PySem.W.isNs_of_in X hok),PySem.W.nsMap_none_of_in X hok U,PySem.W.tail_of_in X ht)
  .rw[q,0]
 .rw[q,0]
def AF {h base B:o8}:∀{l:oj Env},h.FunFrames base l->(∀b>frs l,B.get? b=U_)->h.FunFrames B l
 | [],_,_=>trivial|env::r,⟨hk,⟨L,o,hf,hn,ho,hd⟩,hr⟩,hB=>by
  let e:frs (env::r)=L::frs r:=by unfold frs;rw[vQ,hf]
  rw[e] at hB;exact[hk:(L,o,hf,hB L uj,ho,hd):AF hr λb O=>hB b (ui _ O)]
abbrev AcA (E:XK)(C:o3)(ta:TE):TS:=λ_ σ H=>Mr ta Ack σ H λvs H1=>↑vs=1/\∀e,E (-e) (u_ C) H1
def KU {P:o9}{w:og}{K:o0}{mg:Str->om o6}{base:o8}{N:oj Str}{qual:Str}{scope:VV}{f:o3}{cd:o6}{A:oh}{outer:oj Env}{s₀:o7}{H₀:Hp}{E:XK}
  {x:Str}{C:o3}{np cpos pos:Pos}{aa:Expr}{ta:TE} (hx:PySem.W.excIn K C VE "ValueError.__new__"=v_) (hg:Gl (cxOf (CX1 P w) P w K mg base N qual scope f cd A outer s₀ H₀ E) x) (hm:mg x=u_ (-C))
  (ha:PE (cxOf (CX1 P w) P w K mg base N qual scope f cd A outer s₀ H₀ E) aa ta) (hd:(x==("__debug__":Str))=Vt)
  (hs:VA [aa] (#[13])= [(Vt,eval aa (#[13]))]):
  PS (cxOf (CX1 P w) P w K mg base N qual scope f cd A outer s₀ H₀ E) (.Raise (u_ (.Call (.Name x np) [aa] [] cpos)) U_ pos) (AcA E C ta):=by
 rw[2,D,I,h];erw[Aeb I.mod.kin hx,bm,Nn,nm,q,bs,hdct,sn,sub,ab,col,dd,k0,k1,k2,k3,k5,mN,hC,hN,aq,T];let hT:bm.contains (.type "BaseException")=true:=T.hasType ()
 refine wpAny_Raise_call_subT (C:=C) (nm:=nm) (q:=q) (N:=Nn) (bs:=bs) (bm:=bm) (hdct:=hdct) (sn:=sn) (sub:=sub) (ab:=ab) (col:=col) (dd:=dd) (k0:=k0) (k1:=k1) (k2:=k2) (k3:=k3) (k5:=k5)
  (mN:=mN) F.excBase_ValueError hT (I.ok.hd rfl) (by show(VL cpos (VA [aa] (#[13]))).any (·.1)=Vt;rw[hs];rfl) aq (Zk I hg hm [1:?_] hd)
 let au:PA (cxOf (CX1 P w) P w K mg base N qual scope f cd A outer s₀ H₀ E) [aa] (Mr ta Ack):=qb ha qd hs;let hp:=au cpos oq s σ H (λvs H1=>↑vs=1/\∀e,E (-e) (u_ C) H1) I h;show Vu _ _ (evalArgs (-C) v_ (VL cpos (VA [aa] (#[13]))) []) _ _ s;let aw:VA [aa] (cxOf (CX1 P w) P w K mg base N qual scope f cd A outer s₀ H₀ E).env= [(Vt,eval aa (#[13]))]:=hs;rw[aw] at hp;rw[hs];refine Ur (vz hp (λvs s₂ h₂=>?_) λ_ _ y=>y);erw[h₂,ws,H2,I2,r2,q2];erw[q2,hl,q2];let bk:=I2.bk;let ax:↑vs<=sizeLine:=by rw[<-↑r2,hl];decide
 rw[1,ax,bk _ _ hC,hN.keeps bk,T.keeps bk,λh' e ad=>?_];show Vu (VC P w) (A.deeper (#[13])) (rp (#[13]) (-e)) (λ_ ag=>CX1 P w outer H₀ s₀ E (-e) ag) (λe' ag=>CX1 P w outer H₀ s₀ E e' ag) _;let ay:(A.deeper (#[13])).frames=u_ (#[13]::outer):=I2.ok.frames;let ak:s₂.heap.FunFrames base (#[13]::outer):=I2.stack;let ah:∀b>frs (#[13]::outer),H2 b=none:=I2.stkFree;let al:frs (#[13]::outer)=#[0,s₀]::frs outer:=rfl;let ap:#[0,s₀]<=#[0,s₀]:=I2.ok.above;let O:Un (frs outer) [] H₀ H2 s₀.heap s₂.heap:=I2.base;refine wpAny_leaves_madeW (base:=TI.gone s₂.heap (frs (#[13]::outer))) (h:=s₂.heap) (L:=#[0,s₀]) ay rfl (λb o e=>(TI.gone_some e).2) (AF ak λb U=>TI.gone_none U) ad λam t af aB _ aA=>?_;let ae:∀b o,b∉frs (#[13]::outer)->s₂.heap.get? b=u_ o->am.get? b=u_ o:=λb o U e=>af.1 b o (by rwa[TI.gone_get U])
 let slots:∀b o,s₂.heap.get? b=u_ o->(∀vs,o.data≠ .fields vs)->∃sl,am.get? b=u_ {o with slots:=sl}:=λb o e hn=>aA b o (ad.keeps b o e) hn
 let nd:∀b>frs outer,∀o,s₂.heap.get? b=u_ o->∀vs,o.data≠ .fields vs:=λb U o e=>by
  obtain⟨_,o',e',hn⟩:=ak.mem (show b>(#[13]::outer).filterMap (·.frame) from by rw[show(#[13]::outer).filterMap (·.frame)=frs (#[13]::outer) from rfl,al];exact ui _ U)
  rw[e] at e';rw[e',0];exact hn
 let ac:∀b o,s₀.heap.get? b=u_ o->b∉frs outer->b∉frs (#[13]::outer):=λb o e U hm=>by
  rw[al] at hm;rcases Ab.mp hm with rfl|hm
  .exact A9 (uD e) (vC _)
  .exact U hm
 rw[_,e,C,-t,H2,0,I2.os,I2.bare,(by first|exact I2.tk|exact VP I2.tk (Fo _ _)|((try dsimp only);first|assumption|exact Inv.tk (by assumption)|exact Fq _|exact VP (Inv.tk (by assumption)) (by assumption)|exact Nat.add_pos_left (Inv.tk (by assumption)) _|omega)),(?_,?_,O.free,?_,O.tups,O.frzs,O.tbls),?_,af,?_,q2 e]
 .intro b o e1 hn U hx;exact ae b o (ac b o e1 U) (O.keep b o e1 hn U hx)
 .intro b o e1 hn U hx;erw[O.slot b o e1 hn U hx,sl,e2];erw[slots b _ e2 (nd b U _ e2),ao,e3,<-[ao:e3]]
 .intro b o e1 hx;erw[O.there b o e1 hx,o',e2];by_cases U:b>frs outer
  .erw[slots b _ e2 (nd b U _ e2),ao,e3,<-[_:e3]]
  .exact[o':ae b o' (ac b o e1 U) e2]
 .intro b u U;refine(I2.hok b u U).stay (λc v hc q=>?_) (λ_ q=>q) λ_ _ q=>q;rw[TI.gone_get]
  .exact q
  .intro hm;let hn:=ah c hm;rcases hc with z|z
   .rw[z,U,0] at hn
   .rw[z,0] at hn
 .intro b o e1 U;obtain⟨o',e2⟩:=O.there b o e1 (by simp)
  exact⟨o',by rwa[TI.gone_get (ac b o e1 U)]⟩
nonrec abbrev Cx.marked (X:Cx)(ee:o3)(xe:#[14]):Cx:={X with A:=X.A.mark (u_ (-ee)),calm:=Vt,xe:=xe}
section
variable {X:Cx}{oq:#[16]}{σ:St}{H:Hp}{s:o7}{ee:o3}{xe:#[14]}
def Cx.Ok.marked (ok:X.Ok):(X.marked ee xe).Ok:=
 (ok.mod,ok.kind,ok.glob,ok.blt,ok.above,ok.inj,ok.has,ok.cab,(λz=>A9 z uh),ok.frames,ok.stk,ok.exf,ok.bs,ok.bsz,ok.noex,ok.exfs,ok.funs,ok.frf)
def Inv.marked (I:#[I]):Inv (X.marked ee xe) oq σ H s:=(I.ok.marked,I.os,I.bare,I.base,I.loc,I.cell,I.free,I.freeC,I.pin,I.hok,I.len,I.tk)
def Inv.unmarked (ok:X.Ok)(I:Inv (X.marked ee xe) oq σ H s):#[I]:=(ok,I.os,I.bare,I.base,I.loc,I.cell,I.free,I.freeC,I.pin,I.hok,I.len,I.tk)
def SP.unmarked (ok:X.Ok){D:mV}{f:Flow}{s':o7}(h:SP (X.marked ee xe) oq D f s'):SP X oq D f s':=by
 cases f with
 |next=>erw[h,O,H',I,q,<-(O,H',I.unmarked ok,q)]|brk=>erw[h,O,H',I,q,<-(O,H',I.unmarked ok,q)]|cont=>erw[h,O,H',I,q,<-(O,H',I.unmarked ok,q)]|ret u=>erw[h,v,O,H',I,r,q,<-(v,O,H',I.unmarked ok,r,q)]
abbrev Cat (X:Cx)(oq:#[16])(σ:St)(E:XK)(e:o6)(s':o7):Prop:=∃H1 s1,Inv X oq σ H1 s1/\CX1 X.prog X.w X.stack H1 s1 E e s'
def Of {k:Nat}{f:o3}{fd:Vy}{ps:oj Str}{sp:Sp}{x:Str}{p pos:Pos}{e:Expr}{es:oj Expr}{t:TA}{Q:VK}{E:XK}(F:FnOk X.prog X.w X.K X.mg X.base (CX1 X.prog X.w) k f fd ps sp)(hr:mP k X.A)(hg:Gl X x)(hm:X.mg x=u_ (-f))
  (hk:PySem.W.keepIn X.K (-f)=v_) (hb:Xh X.K fd ps []) (ha:PA X.nox (e::es) t) (I:#[I]) (h:t σ H λvs H1=>sp vs H1 Q E) (aa:(x==("__debug__":Str))=Vt)
  (he:#[22]) (ac:(VL pos (VA es X.env)).any (·.1)=Vt):
  Vu #[X,X] X.A (eval (.Call (.Name x p) (e::es) [] pos) X.env) (EP X oq σ Q) (Cat X oq σ E) s:=by
 refine vH (Zk I hg hm ?_ aa);refine UH (h₀:=X.base) I.ok.mod.kin hk (vz (ha pos oq s σ H _ (I.wish _) h) (λus s1 h1=>?_) λ_ _ z=>z.elim) he ac;erw[h1,vs,H1,ad,r,q];let O:Inv X oq σ H1 s1:=ad.unwish;rw[_,O.kIn];let hl:↑us=↑ps:=by rw[<-↑r];exact F.len _ _ _ _ q
 let U:=hb s1 us O.kIn (by rwa[vg])
 rw[vg] at U;refine HL (tF (F.run X.A X.stack s1 H1 [us:[]] us vs Q E hr O.env0 U r q (.inl O.tk)) λr s' hq=>?_);cases r with
 |error e=>exact(H1,s1,O,hq)|ok fl=>
  cases fl with
  |ret u=>exact O.after hq|next=>exact V_ hq|brk=>exact V_ hq|cont=>exact V_ hq
end
def Fun.okX {P:o9}{w:og}{K:o0}{mg:Str->om o6}{base:o8}{x qual:Str}{st:Stmt}{f:o3}{fd:Vy}{N ps:oj Str}{k:Nat}{sp:Sp}(F:Fun K x qual st f fd)(S:qv N ps (ql st))(len:∀vs H Q E,sp vs H Q E->↑vs=↑ps)
  (O:∀(cdv:o6) (A:oh) (outer:oj Env) (s:o7) (H:Hp) (vs:oj V) (Q:VK) (E:XK),mP k (A.deeper (VD qual (ql st) #[0,s] f cdv))->sp vs H Q E->
   ∃t,PSs (cxOf (CX1 P w) P w K mg base N qual (ql st) f cdv A outer s H E) (Ya st) t/\t {nx:=λ_ H'=>Q .non H',rt:=Q} (qaj N vs) H):FnOk P w K mg base (CX1 P w) (k+1) f fd ps sp:=by
 erw[F.ex,oc,od,kV,doc,pm,an,cdv,ct,osl,rfl,lk,U,<-AdX lk U S len λA outer s H vs Q E hr aa=>O cdv A outer s H vs Q E hr aa]
end L2
namespace PySem.AwM
open PySem.AutoSeq1 PySem.MeetsSeq PySem.MeetsSeq3
def tuple_mul1 (l:o3)(items:Array o6)(n:Nat)(dd:om o3)(sl:Array (om o6))(u:Tok):
  Hf (Gg.«tuple.__mul__» [[-l,.int 1 u]:[]]) (λ_ R s=>s.heap.get? l=u_ {cls:= .type "tuple",dict:=dd,data:= .seq items n,slots:=sl}/\R (.ok (.ret (VB l))) s):=
 .of_wp λprog w A R s h=>by
  erw[s,U,g,d,tk,os];erw[h,O,h];let f1:=idx_int;let f2:=sub_tuple_tuple;let f3:=sub_list_list;let f4:=sub_tuple_list;let f5:=sub_list_tuple;let c2:(items.isEmpty||(1:Int)==1)=true:=by simp
  wp_walk using Uc O
  exact[0:h]
def tuple_mul0 (l:o3)(items:Array o6)(n:Nat)(dd:om o3)(sl:Array (om o6))(u:Tok)(O:items.isEmpty=Vt):
  Hf (Gg.«tuple.__mul__» [[-l,.int 0 u]:[]]) (λ_ R s=>s.heap.get? l=u_ {cls:= .type "tuple",dict:=dd,data:= .seq items n,slots:=sl}/\
   R (.ok (.ret (VB #[0,s]))) {s with heap:=s.heap.push {cls:=Gj "tuple",data:=TW #[]},toks:=s.toks}):=
 .of_wp λprog w A R s h=>by
  erw[s,hp,g,d,tk,os];erw[h,U,h];let f1:=idx_int;let f2:=sub_tuple_tuple;let f3:=sub_list_list;let f4:=sub_tuple_list;let f5:=sub_list_tuple;let c2:¬(items.isEmpty||(0:Int)==1)=true:=by rw[O];decide
  let c3:(decide ((0:Int)<=0)||items.isEmpty)=true:=by simp
  wp_walk using Uc U
  exact[0:h]
end PySem.AwM
namespace L2
open PySem PySem.Spec PyProof.Rows
section
variable {X:Cx}
inductive Afc (K:PySem.W.Frag)(x:V)(y:V)(H:Hp)(Q:VK):Prop
 |mk (l:_)(k:_)(xs:_)(_:x=-l)(_:y= .int k)(_:SqT K H l xs)(_:xs≠ [])(_:0<=k)(_:k<1000000)(_:↑xs*k.toNat<=Vw)(_:(k=1->Q (-l) H))(_:(k≠1->∀p,H p=U_->Q (-p) (upd H p (.tup (VJ k.toNat xs).flatten))))
def AaM:OpR X (Gf .Mult) (Afc X.K):=by
 rw[2,x,y,v,u,Q,I,rx,ry,h];erw[h,l,k,xs,rfl,rfl,hH,O,h0,h2,hz,q1,q];by_cases h1:1<k
 .exact AaK oq s σ H (-l) (.int k) v u Q I rx ry (l,k,xs,1,1,hH,O,h1,h2,hz,q ())
 rw[rx,0];erw[ry,t,rfl];erw[I.tuple hH,its,r,p,z];erw[id p,[cls,dd,data,sl],e,hc,n,hd];simp only at hc hd;subst hc hd;let hl:=↑r;let aa:its.toArray.isEmpty=false:=by
  cases its with
  |nil=>exact A9 (vD hl) O|cons a b=>rfl
 rcases(show k=0\/k=1 by omega) with rfl|rfl
 .refine V9 (T:="tuple") (U:="int") () p.typeIs (λs'=>Vq s' 0 t) Yv F.fills_int_mul UT JW F.slot_int_index.lookup
   (vw UT (Vq s 0 t) F.entry_int_rmul (F.args_int_rmul_2 _ _) (AwM.qap 0 t l its.toArray n dd sl)
    (e,1,p.typeIs,vw F.slot_tuple_mul p.typeIs F.entry_tuple_mul (F.args_tuple_mul_2 _ _) (AwM.tuple_mul0 l its.toArray n dd sl t aa) [e:?_]))
  rw[_,.ref #[0,s],_,I.laid (t':=s.toks) (o:=-[]) (λb ob w=>ug _ w) (Vv _) ?_,1,q () _ (I.hok.fresh (Vv _))]
  exact(uN _,[],.nil,Hl _ _)
 .refine V9 (T:="tuple") (U:="int") () p.typeIs (λs'=>Vq s' 1 t) Yv F.fills_int_mul UT JW F.slot_int_index.lookup
   (vw UT (Vq s 1 t) F.entry_int_rmul (F.args_int_rmul_2 _ _) (AwM.qap 1 t l its.toArray n dd sl)
    (e,1,p.typeIs,vw F.slot_tuple_mul p.typeIs F.entry_tuple_mul (F.args_tuple_mul_2 _ _) (AwM.tuple_mul1 l its.toArray n dd sl t) [e:(-l,H,I,1,q1 rfl)]))
end
end L2
namespace HT
open PySem PyProof.Rows
section
variable {prog:o9}{w:og}{A:oh}{E:#[14]}{s:o7}
def getItem_tuple_all {t sl:o3}{items:Array o6}{vl vu:o6}{lo hi:om Int}{Q:#[14]}(O:Gr s.heap t items)(hs:s.heap.IsSliceOf sl vl vu .none)(pl:GD vl lo)(pu:GD vu hi)
  (hw:sIx items.size 0 lo=0/\sIx items.size items.size hi=items.size) (h:Q (-t) s):Vu #[w,w] A (Gx (-t) (-sl)) Q E s:=by
 erw[id hs,os,aa,ac,ae];let ad:s.TypeIs (-sl) "slice":=[os:aa:ac];unfold Gx
 try with_reducible refine VX ?_
 first|refine A8 (uu ?_)|skip
 refine A8 (Pe O.typeIs () ?_)
 refine A8 (vJ (name:=Hm "__getitem__") O.typeIs vS
  (U7 vS O.typeIs p9 ?_ (RE _ _)))
 show Vu _ _ (Ri (-t)>>=_) _ _ s;refine A8 (rS O ?_);refine A8 (Gn ad ?_);rw[A6 ()]
 refine A8 (Jc hs pl pu ?_);let U:((((sIx items.size 0 lo:Nat):Int)==0&&(1:Int)==1&&(sIx items.size items.size hi-sIx items.size 0 lo)==items.size)=v_):=by
  rw[hw.1,hw.2];simp
 show Vu _ _ (if(((sIx items.size 0 lo:Nat):Int)==0&&(1:Int)==1&&(sIx items.size items.size hi-sIx items.size 0 lo)==items.size)=v_ then _ else _) _ _ s
 rw[A6 U];unfold oS;refine A8 (A8 (Gn O.typeIs (uu ?_)));rw[A6 ()]
 exact A8 (UB (uu [0:uu h]))
end
end HT
namespace L2
open PySem PySem.Spec PyProof.Rows
section
variable {X:Cx}
inductive Af8 (K:PySem.W.Frag)(x:V)(lo:Option Int)(hi:Option Int)(H:Hp)(Q:VK):Prop
 |mk (a:_)(xs:_)(_:x=-a)(_:SqT K H a xs)(_:(HT.sIx ↑xs 0 lo=0/\HT.sIx ↑xs ↑xs hi=↑xs->Q (-a) H))(_:(¬(HT.sIx ↑xs 0 lo=0/\HT.sIx ↑xs ↑xs hi=↑xs)->∀p,H p=U_->Q (-p) (upd H p (.tup (l6 xs lo hi)))))
def Aap:SlR X (Af8 X.K):=by
 rw[2,x,v,vl,vu,lo,hi,sl,Q,I,rx,hs,pl,pu,h];erw[h,a,xs,rfl,hx,q1,q2];by_cases U:HT.sIx ↑xs 0 lo=0/\HT.sIx ↑xs ↑xs hi=↑xs
 .rw[rx,0];erw[I.tuple hx,its,r,ht,hz];let O:its.toArray.size=↑xs:=by rw[uz];exact r.length.symm
  rw[_,"tuple",_,PyProof.Rows.slot_tuple_getitem.lookup,ht.typeIs];exact HT.getItem_tuple_all ht hs pl pu (by rwa[O]) (-a,H,I,1,q1 U)
 .exact AcS oq s σ H (-a) v vl vu lo hi sl Q I rx hs pl pu (a,xs,1,hx,U,q2 U)
end
abbrev Yp (n:Nat):Kd->Str->om Pt
 | .words,z=>u_ (.s z)| .box,z=>if z>BX then u_ (.s z) else U_| .line,z=>((VN n).find? λi:Nat=>decide ((VH (1+(i:Int)):Str)=z)).map λi:Nat=> .n (1+(i:Int))
abbrev Yy (n:Nat):oj Kd->oj Str->om (oj Pt)
 | [],_=>u_ []|k::ks,z::zs=>match Yp n k z,Yy n ks zs with
  |some p,u_ ps=>u_ (p::ps)|_,_=>U_
 |_::_,[]=>U_
abbrev xS (w:Str):om (oj Kd):=(FRM.find? λx=>decide (x.1=w)).map (·.2)
abbrev pcs (ks:oj Kd)(z:Str):oj Str:=spl (if Kd.words>ks then ↑ks else ↑z+1) z
abbrev wE (n:Nat)(z:Str):om Rw:=
 if Qt z=v_ then match xS (hd z) with
  |none=>U_|some ks=>if(pcs ks z).length=1+↑ks then(Yy n ks ((pcs ks z).drop 1)).map λl=>(hd z,l) else U_
 else U_
variable {ks:oj Kd}
def Za {w:Str}(h:xS w=u_ ks):(w,ks)>FRM:=by
 unfold xS at h;cases e:FRM.find? λx=>decide (x.1=w) with
 |none=>rw[e,0] at h|some x=>
  rw[e] at h;let O:=tP e;let hm:=Up e;rw[h,0];have:x.1=w:=uq O;subst this;exact hm
def Wm {w:Str}(h:xS w=U_):∀x>FRM,x.1≠w:=by
 unfold xS at h;rw[rC,UK] at h;intro x O e;exact h x O (ua e)
variable {n:Nat}{z:Str}
def ES {m:Nat}{k:Kd}{p:Pt}(hz:↑z<=m)(ha:z.cps.toList.all QD=v_)(h:Yp n k z=u_ p):Ada n m k p/\p.t=z:=by
 cases k with
 |words=>rw[h,0];exact[[hz:ha]:1]|box=>
  simp![Yp] at h;by_cases O:z>BX
  .rw[A6 O,0] at h;exact[O:1]
  .rw[A4 O,0] at h
 |line=>
  simp![Yp] at h;cases e:(VN n).find? λi:Nat=>decide ((VH (1+(i:Int)):Str)=z) with
  |none=>rw[e,0] at h|some i=>
   rw[e,0] at h;let h1:=tP e;let h2:=List.mem_range.mp (Up e);exact[[():()]:uq h1]
set_option tactic.hygienic true in
def kZ {n m:Nat}:∀{ks:oj Kd}{zs:oj Str}{ps:oj Pt},(∀z>zs,↑z<=m/\z.cps.toList.all QD=v_)->↑zs=↑ks->Yy n ks zs=u_ ps->Xv n m ks ps/\ps.map Pt.t=zs
 | [],[],ps,_,_,h=>by rw[h,0];exact[trivial:1]| [],_::_,_,_,hl,_=>by simp at hl|_::_,[],_,_,hl,_=>by simp at hl|k::ks,z::zs,ps,hz,hl,h=>by
  unfold Yy at h;split at h
  .rename_i p qs h1 h2
   rw[h,0];erw[ES (hz z uj).1 (hz z uj).2 h1,O,U];obtain⟨b1,b2⟩:=kZ (λy hy=>hz y (ui _ hy)) (by simpa using hl) h2
   exact⟨[O:b1],by rw[ur,U,b2]⟩
  .rw[h,0]
abbrev qaW:oj (oj Nat)->oj Nat
 | []=> []| [x]=>x|x::y::r=>x++32::qaW (y::r)
def DJ (x:oj Nat){q:oj (oj Nat)}(O:q≠ []):qaW (x::q)=x++32::qaW q:=by
 cases q with
 |nil=>exact A9 rfl O|cons y r=>rfl
def qaq:∀(n:Nat) (L:oj Nat),qaW (lc 32 n L)=L
 |0,L=>by simp[lc,qaW]|n+1,[]=>by simp[lc,qaW]|n+1,a::r=>by
  by_cases h:a=32
  .let O:=qaq n r;erw[JJ 32 n r,p,q,e];rw[lc,A6 h,DJ [] (by rw[e];simp),O,h]
   rfl
  .let O:=qaq (n+1) r;erw[JJ 32 (n+1) r,p,q,e];rw[e] at O;simp![lc,A4 h,e];cases q with
   |nil=>simp![qaW] at O⊢;rw[O]|cons y t=>
    simp![qaW] at O⊢;rw[UA,O]
def CK:∀l:oj (oj Nat),(VF " " (l.map ofL)).cps.toList=qaW l
 | []=>rfl| [x]=>by show(ofL x).cps.toList=x;unfold ofL;simp|x::y::r=>by
  let O:=CK (y::r);show(VF " " (ofL x::ofL y::r.map ofL)).cps.toList=_;rw[Jt];let e:(ofL x).cps.toList=x:=by unfold ofL;simp
  rw[e];show x++32::(VF " " ((y::r).map ofL)).cps.toList=_;rw[O]
  rfl
def Mw (n:Nat)(z:Str):VF " " (spl n z)=z:=by
 unfold spl;let h:=CK (lc 32 n z.cps.toList);rw[qaq] at h;rw[<-ye (VF " " ((lc 32 n z.cps.toList).map ofL)),h,ye]
def C8:∀(n:Nat) (L:oj Nat),∃q,lc 32 (n+1) L=xv 32 L::q
 |n,[]=>⟨[],by simp[lc,xv]⟩|n,a::r=>by
  by_cases h:a=32
  .exact⟨lc 32 n r,by simp[lc,xv,h]⟩
  .erw[C8 n r,q,e,<-⟨q,by simp![lc,A4 h,e,xv]⟩]
def Mu (n:Nat)(z:Str):∃q,spl (n+1) z=hd z::q:=by
 erw[C8 n z.cps.toList,q,e,<-⟨q.map ofL,by unfold spl hd;rw[e];rfl⟩]
def BR:∀(n:Nat) (L:oj Nat),∀p>lc 32 n L,↑p<=↑L/\∀c>p,c>L
 |0,L=>λp O=>by
  simp[lc] at O;subst O;exact[Vv _:λc U=>U]
 |n+1,[]=>λp O=>by
  simp[lc] at O;subst O;exact[Vv _:λc U=>U]
 |n+1,a::r=>λp O=>by
  by_cases h:a=32
  .rw[lc,A6 h] at O;rcases Ab.mp O with rfl|O
   .exact⟨uN _,λc U=>by simp at U⟩
   .erw[BR n r p O,h1,h2,<-⟨by simp;omega,λc U=>ui _ (h2 c U)⟩]
  .erw[JJ 32 (n+1) r,p0,q,e];let ih:=BR (n+1) r;rw[e] at ih;simp![lc,A4 h,e] at O;rcases Ab.mp O with rfl|O
   .erw[ih p0 uj,h1,h2];refine⟨by simp;omega,λc U=>?_⟩
    rcases Ab.mp U with rfl|U
    .exact uj
    .exact ui _ (h2 c U)
   .erw[ih p (ui _ O),h1,h2,<-⟨by simp;omega,λc U=>ui _ (h2 c U)⟩]
def Oy {m:Nat}(hz:↑z<=m)(ha:z.cps.toList.all QD=v_):∀p>spl n z,↑p<=m/\p.cps.toList.all QD=true:=by
 intro p O;erw[Af.mp O,q,U,rfl];erw[BR n z.cps.toList q U,h1,h2];let e:(ofL q).cps.toList=q:=by unfold ofL;simp
 rw[_,?_,?_]
 .have:↑(ofL q)=↑q:=by unfold ofL GJ;simp
  rw[this];have:↑z.cps.toList=↑z:=by simp[GJ]
  omega
 .rw[e,U9];intro c hc;exact List.all_eq_true.mp ha c (h2 c hc)
variable {r:Rw}
set_option tactic.hygienic true in
def Ck (h:wE n z=u_ r):jH n 300 r/\yW r=z:=by
 unfold wE at h;split at h
 .rename_i ht
  let O:=ht;unfold Qt at O;rw[uB,uT] at O;split at h
  .rw[h,0]
  .rename_i ks hk
   split at h
   .rename_i hl
    cases e:Yy n ks ((pcs ks z).drop 1) with
    |none=>rw[e,0] at h|some l=>
     rw[e,0] at h;let hm:=Za hk;let U:∀p>(pcs ks z).drop 1,↑p<=300/\p.cps.toList.all QD=true:=λp hp=>Oy O.1 O.2 p (FE hp);obtain⟨a1,a2⟩:=kZ U (by rw[Ug,hl];omega) e
     rw[_,[ks:hm:a1]];let aa:∃j,(if Kd.words>ks then ↑ks else ↑z+1)=j+1:=by
      split
      .rename_i hw
       exact⟨↑ks-1,by have:=List.length_pos_iff.mpr (λe=>by rw[e] at hw;simp at hw:ks≠ []);omega⟩
      .exact[↑z:1]
     erw[aa,j,hj];erw[Mu j z,q,hq];let hp:pcs ks z=hd z::q:=by unfold pcs;rwa[hj]
     let hb:VF " " (pcs ks z)=z:=Mw _ z;show VF " " (hd z::l.map Pt.t)=z;rw[a2];rw[hp] at hb⊢;exact hb
   .rw[h,0]
 .rw[h,0]
abbrev Bc (a C:o3):HO:= .ext λh=>∃o,h.get? a=u_ o/\o.cls= .ref C/\PySem.W.notCls o=v_
variable {w:og}{H:Hp}{h:o8}{a C:o3}{o:Obj}
def Bc.ok {P:o9}(e:h.get? a=u_ o)(c:o.cls=-C)(n:PySem.W.notCls o=v_):QT P w H h a (Bc a C):=
 [(o,e,c,n):[o:e]:λ_ _ ⟨o,e,c,n⟩ k=>(o,k o e,c,n)]
def QT.here {P:o9}{o:HO}(x:QT P w H h a o):∃u,h.get? a=u_ u:=by
 cases o with
 |lst xs=>erw[x,_,_,_,_,e,<-[_:e]]|tup xs=>erw[x,_,_,_,u,e,_,<-[_:e]]|dK kvs=>erw[x,_,_,_,_,u,_,_,e,_,<-[_:e]]|dT kvs=>erw[x,_,_,_,_,u,_,_,e,_,<-[_:e]]|set S n=>erw[x,u,_,_,_,e,_,<-[_:e]]|ins C dx fs=>erw[x,_,_,_,e,_,<-[_:e]]|own y=>exact x|xd fs=>erw[x,_,[_,_,_,e,_],_,<-[_:e]]|rng lo hi=>erw[x,_,_,_,e,<-[_:e]]|frz ob u=>erw[x,e,_,<-[_:e]]|tbl ps=>exact⟨_,show h.get? a=u_ _ from x⟩|met f y=>exact⟨_,show h.get? a=u_ _ from x⟩|ext φ=>erw[x,_,q,_,<-q]
abbrev mV.less (D:mV)(i:Nat):mV:={nx:=λσ H=>D.nx (σ.set i U_) H,rt:=D.rt,bk:=λσ H=>D.bk (σ.set i U_) H,ct:=λσ H=>D.ct (σ.set i U_) H}
section
variable {X:Cx}{oq:#[16]}{σ:St}{H:Hp}{s:o7}
def X2 {M:GW}{A:oh}{E:#[14]}{i:Nat}{x:Str}{pos:Pos}{Q:Unit->o7->Prop}(I:#[I])(hN:X.N.Nodup)(hi:X.N[i]? =u_ x)(hx:X.env.scope.names.lookup x=u_ .local)
  (h:∀s',Inv X oq (σ.set i U_) H s'->Q Gk s'):Vu M A (do bindName X.env x .none;rR X.env x pos) Q E s:=by
 let hk:X.env.kindOf x=u_ .local:=hx;let ac:(X.env.scope.kind== .class||(X.env.scope.kind== .module&&X.env.locals !=X.env.globals))=false:=by rw[I.ok.kind];rfl
 let ad:i<↑σ:=by rw[I.len];exact(Ah.mp hi).1
 refine A8 (wpAny_bindName (zH (v:= .non) I hN hi (.inl hx) rfl (λs1 O=>?_) (.inr hx)));erw[id O.loc,m,hn,hl];let aa:(m x).isSome=true:=by
  obtain⟨u,ru,q⟩:=hl i x .non hi (by rw[UC ad]) (.inl hx)
  rcases q with⟨_,e⟩|⟨k,_⟩
  .rw[e];rfl
  .rw[hk] at k;rcases k with k|k<;>cases k
 unfold rR;refine Tq ?_;unfold unbindName;refine A8 (Ro (A8 ?_));unfold deleteName;simp![hk,ac];rw[A4 ()]
 refine A8 (wpAny_nsDel_keeps hn λh2 v ae U=>?_);rw[aa];simp![V5,tN,uY,Uq];let cne:=O.cne;let af:HOk X.prog X.w H h2:=HOk.sameBut O.hok O.free U;let I2:Inv X oq (σ.set i U_) H {s1 with heap:=h2}:=by
  refine(O.ok,O.os,O.bare,(λb o e n hb hx=>?_,λb o e n hb hx=>?_,O.base.free,λb o e hx=>?_,O.base.tups,O.base.frzs,O.base.tbls),[_:ae:λj y v' e1 e2 e3=>?_],λy c e=>?_,O.free,O.freeC,λp hp=>?_,af,by rw[rH];exact I.len,O.tk)
  .exact(U.2 b (uM (VP (uD e) O.ok.above))).trans (O.base.keep b o e n hb hx)
  .erw[O.base.slot b o e n hb hx,sl,e1,<-[sl:(U.2 b (uM (VP (uD e) O.ok.above))).trans e1]]
  .erw[O.base.there b o e hx,o',e1,<-[o':(U.2 b (uM (VP (uD e) O.ok.above))).trans e1]]
  .by_cases hj:j=i
   .subst hj;rw[UC ad,0] at e2
   .rw[V4 (Uv hj)] at e2;obtain⟨u',r',q⟩:=hl j y v' e1 (by rw[V4 (Uv hj)];exact e2) e3
    rw[_,u',r'];rcases q with⟨k,e⟩|⟨k,c,e,z⟩
    .refine .inl [k:?_];let ag:y≠x:=λe=>hj (wx hN e1 (e▸hi));simp[ag,e]
    .exact .inr (k,c,e,z.sameBut U (cne y c e))
  .erw[O.cell y c e,w',z,<-[w':z.sameBut U (cne y c e)]]
  .erw[O.pin p hp,e,n,ne,nf,d,<-((U.2 p.1 ne).trans e,n,ne,nf,d)]
 exact uu (Ro (h _ I2))
def Od {D:mV}{e:o6}{s':o7}{c n:Str}{i:Nat}{np aw:Pos}{C':o3}{b₀:Stmt}{ae:oj Stmt}{ts:TS}
  (aE:Cat X oq σ (λv C H2=>∃Cc,C=u_ Cc/\PySem.W.exmOne X.K (-Cc) (-C')=u_ v_/\∀O,v= .ref O->H2 O=U_->ts (D.less i) (σ.set i (u_ (-O))) (upd H2 O (Bc O Cc))) e s') (af:X.stack=X.env::X.outer/\X.env.frame=u_ X.env.locals)
  (hg:Gl X c) (hm:X.mg c=u_ (-C')) (hN:X.N.Nodup) (hi:X.N[i]? =u_ n) (hn:X.env.scope.names.lookup n=u_ .local) (hs:∀ee xe,PSs (X.marked ee xe) (b₀::ae) ts) (aF:(c==("__debug__":Str))=Vt):
  Vu #[X,X] X.A (noteFrame e X.env) (λ_ s2=>Vu #[X,X] X.A (setFlight e U_) (λ_ s3=>Vu #[X,X] X.A (handleBy e X.env [.ExceptHandler (u_ (.Name c np)) (u_ n) (b₀::ae) aw]) (SP X oq D) X.xe s3) X.xe s2) X.xe s':=by
 erw[aE,H1,s1,I,O,Cc,a0,H',B,rfl,aG,ao,htk,ac,ak,U,hold,C2,hC,hx,ap];cases hC;let aq:H' O=none:=by
  cases q:H' O with
  |none=>rfl|some u=>
   erw[(ak O u q).here,o,z];rw[U.2.1,0] at z
 let ap:=ap O rfl aq;let nd:∀b>frs X.stack,∀o,s'.heap.get? b=u_ o->∀vs,o.data≠ .fields vs:=λb hb o e=>by
  obtain⟨_,o',e',hn⟩:=U.2.2.1.mem (show b>X.stack.filterMap (·.frame) from hb)
  rw[e] at e';rw[e',0];exact hn
 let ax:∀o,s1.heap.get? O=u_ o->False:=λo z=>by
  by_cases hb:O>frs X.stack
  .erw[U,_,_,_,oe,vs,_,_,_,he,_,hd,_,<-nd O hb oe he vs hd]
  .erw[hold O o z hb,o',q];rw[U.2.1,0] at q
 let step:∀hk,B.StaysIn hk->s'.heap.UpToSlots hk->(∃o,hk.get? O=u_ o/\o.cls= .ref Cc/\PySem.W.notCls o=v_)->Inv X oq σ (upd H' O (Bc O Cc)) {s' with heap:=hk}:=by
  intro hk hB hU ⟨oe,he,hc,aH⟩;let aI:∀b o o',B.get? b=u_ o'->s'.heap.get? b=u_ o->hk.get? b=u_ o:=λb o o' e1 e2=>by
   have:=U.1 b o' e1;rw[e2,0] at this;exact hB b o e1
  let aJ:∀b o,s1.heap.get? b=u_ o->b≠O:=λb o e z=>ax o (z▸e);let ay:HOk X.prog X.w (upd H' O (Bc O Cc)) hk:=λb u e=>by
   by_cases z:b=O
   .subst z;rw[qg,0] at e;exact Bc.ok he hc aH
   .rw[qk z] at e;let ag:∀c u,H' c=u_ u->upd H' O (Bc O Cc) c=u_ u:=λc u q=>by rwa[qk (qi q aq)]
    exact(ak b u e).stay (λc v _ q=>hB c v q) (λc q=>ag c _ q) λc xs q=>ag c _ q
  let hT:∀b u,H' b=u_ u->upd H' O (Bc O Cc) b=u_ u:=λb u q=>by rwa[qk (qi q aq)]
  refine I.call' (s':={s' with heap:=hk}) (ch:= []) aG (?_,?_,?_,?_,λb xs q=>hT b _ (ac.tups b xs q),λb o u q=>hT b _ (ac.frzs b o u q),λb ps q=>?_) ay ao (λb z=>by simp at z)
  .intro b o e1 hn hb ad;erw[hold b o e1 hb,o',e2,<-aI b o o' e2 (ac.keep b o e1 hn hb ad)]
  .intro b o e1 hn hb ad;erw[ac.slot b o e1 hn hb ad,sl,e2];erw[hU b _ e2 (nd b hb _ e2),aA,e3,<-[aA:e3]]
  .intro b o e1 hn ad;rw[qk (aJ b o e1)];exact ac.free b o e1 hn ad
  .intro b o e1 ad;by_cases hb:b>frs X.stack
   .erw[ac.there b o e1 ad,o',e2];erw[hU b _ e2 (nd b hb _ e2),aA,e3,<-[_:e3]]
   .erw[hold b o e1 hb,o',e2,<-[o':hB b o' e2]]
  .erw[ac.tbls b ps q,more,q2,<-[more:hT b _ q2]]
 let aB:∀{l:oj Env}{hk:o8},FA B l O (-Cc) a0 hk->∃o,hk.get? O=u_ o/\o.cls= .ref Cc/\PySem.W.notCls o=true:=λf=>by
  erw[f,_,_,_,oe,vs,_,_,_,he,hc,hd,_,<-(oe,he,hc.1,by unfold PySem.W.notCls;rw[hd])]
 rw[af.1] at U;let aK:X.A.frames=u_ (X.env::X.outer):=by rw[I.ok.frames,af.1]
 refine wpAny_looks_onW (base:=B) aK af.2 U λh1 au al=>?_;refine wpAny_landsW au λh2 aa am=>?_;let I2:=step h2 aa.1 (al.trans am) (aB aa);refine wpAny_handleBy_cons (codeAny_handlers_test ?_) (by intro q;rw[q,0])
 refine Zk (X:=X.marked O X.xe) I2.marked hg hm ?_ aF;erw[aa.there,oe,he,aC];let LT:PySem.W.Looks #[X,X] h2 (Hy (-O)) (-Cc):=aC▸(PySem.W.Looks.ld he).andThen .now;refine PySem.W.exm_one I2.kIn LT hx _ _ _ _ (λb o e=>e) ?_;refine codeAny_handlers_suite_as (lands_againW aa λh3 ah aD=>?_);let I3:=step h3 ah.1 ((al.trans am).trans aD) (aB ah);refine zH (v:=-O) I3 hN hi (.inl hn) rfl (λs4 I4=>?_) (.inr hn);refine vz (hs O _ oq _ _ _ (D.less i) I4.marked ap) (λf s5 h5=>?_) λ_ _ z=>z;let h5:=h5.unmarked I.ok;cases f with
 |next=>erw[h5,σ',H5,I5,q,<-X2 I5 hN hi hn λs6 I6=>(_,H5,I6,q)]|brk=>erw[h5,σ',H5,I5,q,<-X2 I5 hN hi hn λs6 I6=>(_,H5,I6,q)]|cont=>erw[h5,σ',H5,I5,q,<-X2 I5 hN hi hn λs6 I6=>(_,H5,I6,q)]|ret u=>erw[h5,v,σ',H5,I5,r,q,<-X2 I5 hN hi hn λs6 I6=>(v,_,H5,I6,r,q)]
abbrev Acy (K:o0)(sp:Sp)(t:TA)(i:Nat)(C':o3)(ts:TS):TS:=λD σ H=>t σ H λvs H1=>sp vs H1 (λ_ H2=>D.nx σ H2) (λv C H2=>∃Cc,C=u_ Cc/\PySem.W.exmOne K (-Cc) (-C')=u_ v_/\∀ea,v= .ref ea->H2 ea=U_->ts (D.less i) (σ.set i (u_ (-ea))) (upd H2 ea (Bc ea Cc)))
def MU {i k:Nat}{f:o3}{fd:Vy}{ps:oj Str}{sp:Sp}{x c n:Str}{p np cpos U aa pos:Pos}{e:Expr}{es:oj Expr}{t:TA}{C':o3}{b₀:Stmt}{O:oj Stmt}{ts:TS}(hN:X.N.Nodup)(hi:X.N[i]? =u_ n)(hn:X.env.scope.names.lookup n=u_ .local)
  (F:FnOk X.prog X.w X.K X.mg X.base (CX1 X.prog X.w) k f fd ps sp) (hr:mP k X.A)
  (hg:Gl X x) (hm:X.mg x=u_ (-f)) (hk:PySem.W.keepIn X.K (-f)=v_) (hb:Xh X.K fd ps []) (ha:PA X.nox (e::es) t) (ac:X.stack=X.env::X.outer/\X.env.frame=u_ X.env.locals) (ad:Gl X c) (ae:X.mg c=u_ (-C'))
  (hs:∀ee xe,PSs (X.marked ee xe) (b₀::O) ts) (af:(x==("__debug__":Str))=Vt) (ag:(c==("__debug__":Str))=Vt)
  (he:#[22]) (ah:(VL cpos (VA es X.env)).any (·.1)=Vt) (ak:Ht (.Call (.Name x p) (e::es) [] cpos) U_ U.line X.env=pure Vt):
  PS X (.Try [.Expr (.Call (.Name x p) (e::es) [] cpos) U] [.ExceptHandler (u_ (.Name c np)) (u_ n) (b₀::O) aa] [] [] pos) (Acy X.K sp t i C' ts):=by
 rw[2,D,I,h];refine wpAny_Try_except (Fi ?_);refine vz (Rz (Q:=SP X oq D) (vz (Of F hr hg hm hk hb ha I h af he ah) (λv s1 ⟨y,H1,I1,r1,q1⟩=>(σ,H1,I1,q1)) λ_ _ z=>z) I.quiet ak) (λfl s1 q=>?_) λe' s1 q=>Od q ac ad ae hN hi hn hs ag;cases fl with
 |next=>exact UN (UN q)|ret v=>exact q|brk=>exact q|cont=>exact q
end
end L2
namespace PySem.AwV
open PySem PySem.Calls PyProof.Rows Builtin Builtin.ObjectAttr Builtin.Getset_descriptor PySem.W
structure xH (K:Frag)(C:o3):Prop where
 ga:findIn K (-C) "__getattribute__"=u_ (u_ (.builtin "BaseException.__getattribute__"))
 gt:findIn K (-C) "__getattr__"=u_ U_
 cl:findIn K (-C) "__class__"=u_ (u_ (.builtin "object.__class__"))
 sp:specialIn K (.builtin "object.__class__") "__get__"=u_ (u_ (.builtin "getset_descriptor.__get__"))
 tk:takesIn K (.builtin "object.__class__")=u_ v_
 ob:mroIn K C (.type "object")=u_ v_
 be:mroIn K C (.type "BaseException")=u_ v_
abbrev DV (x C:o3)(h:o8):Prop:=∃o,h.get? x=u_ o/\o.cls= .ref C/\notCls o=v_
section
variable {prog:o9}{w:og}{A:oh}{E:#[14]}{s:o7}{K:Frag}{x C:o3}
variable {M:GW}{h:o8}
def zr (I:DV x C h):Looks M h (Hy (-x)) (-C):=by
 erw[I,o,e,c,_,<-c▸(Looks.ld e).andThen .now]
def NW (X:K.In h)(Z:xH K C):Looks M h (find (-x) (-C) "__class__") (.bind (.builtin "getset_descriptor.__get__") (.builtin "object.__class__")):=by
 refine(looks_findIn (M:=M) X Z.cl).andThen (Looks.andThen (a:=u_ (.builtin "getset_descriptor.__get__")) (show Looks M h (getOf (u_ _)) _ from looks_specialIn X Z.sp) ?_)
 let O:=looks_takesIn (M:=M) X Z.tk;exact(show Looks M h (dataDescriptor? (u_ _) (u_ _)) (u_ (_,_)) from
  O.andThen .now).andThen (Looks.tag .now)
def AbN {O:o6}{R:GP->o7->Prop}(X:K.In s.heap)(I:DV x C s.heap)(Z:xH K C)(h:R (.ok (.ret (-C))) s):
  G9 #[w,w] A (.call (.builtin "getset_descriptor.__get__") [[.builtin "object.__class__",-x,O]:[]]) R s:=by
 erw[s,U,g,dr,t,os];let L0:=zr (M:=VC prog w) I;let L1:=looks_mroIn (M:=VC prog w) X Z.ob;let ck:=KF.slot_gs.check #[w,w] A;refine TH KF.slot_gs.plain KF.entry_gs
  (KF.slot_gs.check _ _ _ _ _ _ _ _ KF.type_class (KF.args_gs _ _ _) ?_)
 unfold Gg.«getset_descriptor.__get__»;unfold descrGet;rw[dga_obj];refine A8 (uu ?_);unfold descrGetter descrCheckInstance;unfold descrNameAndClass isInstance;simp![KF.owner_class]
 repeat lk
 refine⟨Code.quiet_builtin _ (),
  Vi KF.entry_class ?_⟩
 unfold Gg.«object.__class__» shownTypeOf
 repeat lk
 exact h
def Lx {rest:oj o6}{Q:Unit->o7->Prop}(X:K.In s.heap)(I:DV x C s.heap)(Z:xH K C)(ha:argsOk "BaseException.__getattribute__" [.ref x::rest:[]])(h:Q Gk s):
  Vu #[w,w] A (Tj "BaseException.__getattribute__" [.ref x::rest:[]]) Q E s:=by
 let O:splitId "BaseException.__getattribute__"=u_ ("BaseException","__getattribute__"):=by rw[12]
 let hk:RU "BaseException.__getattribute__"=u_ .slot:=by
  simp![RU,O]
  rw[12]
 let LI:Looks #[w,w] s.heap (isInstance (-x) (.type "BaseException")) true:=(zr I).andThen (looks_mroIn X Z.be);simp![Tj,hk,O];refine A8 (LI A _ E s (λ_ _ e=>e) ?_);simp![tN,uY,Uq];cases U:oo "BaseException.__getattribute__" with
 |none=>exact uu h|some aa=>
  simp![argsOk,U] at ha;let h2:Rg "BaseException.__getattribute__" aa ⟨.ref x::rest,[]⟩=pure Unit.unit:=ha;exact(show Vu #[w,w] A (Rg _ aa _) Q E s from by
   rw[h2];exact uu h)
def Lv {tk:Tok}{Q:Fin->o7->Prop}(X:K.In s.heap)(I:DV x C s.heap)(Z:xH K C)(h:Q (.done (.ret (-C))) s):
  Vu #[w,w] A (Gg.«object.__getattribute__» [[-x,.str "__class__" tk]:[]]) Q E s:=by
 let O:=I;let U:=X;erw[s,hh,g,dr,t,os];let L0:=zr (M:=VC prog w) I;let L1:=NW (M:=VC prog w) (x:=x) X Z;refine A8 (uu (A8 (uu (A8 (L0.at (A8 (L1.at ?_)))))));show Vu #[w,w] A (GS [.builtin "object.__class__"] (call (.builtin "getset_descriptor.__get__") [.builtin "object.__class__",-x,-C])>>=ret) Q E _;refine A8 (VX (HL (AbN U O Z ?_)));exact uu h
def Lw {Q:om o6->o7->Prop}(X:K.In s.heap)(I:DV x C s.heap)(Z:xH K C)(h:Q (u_ (-C)) {s with toks:=s.toks+1}):
  Vu #[w,w] A (T9 (-x) "__class__") Q E s:=by
 let O:=I;let U:=X;erw[s,hh,g,dr,t,os];let L0:=zr (M:=VC prog w) I;let L1:=looks_findIn (M:=VC prog w) X Z.ga;let L2:=looks_findIn (M:=VC prog w) X Z.gt;let f3:=F.excAttr_ValueError.ga.bind (-x);unfold T9 getAttrBy?;refine A8 (TJ (A8 (UZ ?_)));unfold getAttrBy;refine VX (A8 (L0.at (A8 (L1.at ?_))));show Vu #[w,w] A (Ti (-x) _ (-C) (.builtin "BaseException.__getattribute__") Vt Vt) _ _ _;unfold Ti;refine A8 ((show Looks #[w,w] hh (hookBefore (-C)) U_ from L2).at ?_)
 refine A8 (UZ (VX ?_));show Vu #[w,w] A (Tb (.builtin "BaseException.__getattribute__") (-x) _) _ _ _;unfold Tb;rw[f3];refine A8 (uu (HL (TH F.excAttr_ValueError.ga.plain F.entry_bexc_ga (Lx U O Z (F.args_bexc_ga _ _) (Lv U O Z ?_)))));show Vu #[w,w] A (handedOut (-C)) _ _ _;rw[handedOut_of (show handedIn (-C)=v_ from rfl)]
 exact uu (uu h)
set_option tactic.hygienic true in
def exc_kit (Z:xH K C):KitX K (-x) (-C) (DV x C) where
 ty:=λ_ _ _ I=>zr I
 it:=λM h X _=>by
  erw[Option.bind_eq_some_iff.mp Z.ob,cd,O,_];unfold clsIn at O;split at O
  .rename_i U
   intro A' Q' E' s' k q;unfold isType loadHead;exact A8 (RG (k _ _ (X _ _ U))
    (uu q))
  .rw[O,0]
 ne:=λh tp dd its n sl X aa=>by
  erw[Option.bind_eq_some_iff.mp Z.ob,cd,O,_];refine Bool.eq_false_iff.mpr λq=>?_;let e:C=tp:=oy (beq_iff_eq.mp q);subst e;unfold clsIn at O;split at O
  .rename_i U
   let z:=(X _ _ U).symm.trans aa;rw[z,0]
  .rw[O,0]
 ca:=λX I q=>Lw X I Z q
end
end PySem.AwV
namespace L2
open PySem PySem.Spec PyProof.Rows
def AbX:GH "ValueError"=u_ (.type "ValueError"):=by rw[12]
inductive TyX (K:PySem.W.Frag)(H:Hp):V->o6->Prop where
 |ty {x:V}{t:o6}(h:B5 K H x t):TyX K H x t
 |exc {a C:Addr}(h:H a=u_ (Bc a C))(Z:AwV.xH K C):TyX K H (-a) (-C)
section
variable {X:Cx}{oq:#[16]}{σ:St}{H:Hp}{s:o7}
inductive AfY:V->o6->Prop where
 |ty (T:String):AfY (.ty T) (.type T)
 |own (C:Addr):AfY (-C) (-C)
variable {u:o6}{A:oh}{E:#[14]}
def NK {x:V}{t c:o6}{b:Bool}{Q:#[14]}(I:#[I])(O:ii x u)(ty:TyX X.K H x t)(e:PySem.W.kitOne X.K t c=u_ b)(h:∀tk,Q (.bool b) {s with toks:=tk}):
  Vu #[X,X] A (call (.builtin "isinstance") [u,c]) Q E s:=by
 cases ty with
 |ty z=>exact Av I O z e h| @exc a C ea Z=>
  rw[show u=VB a from O,0]
  obtain⟨p,_,_⟩:=(show QT X.prog X.w H s.heap a (Bc a C) from I.hok a _ ea)
  exact vy (AwV.exc_kit Z) I.kIn p e (λz=>nomatch z) h
def ZN {K:o0}(U:X.K=K):yT X (.builtin "isinstance") (λxs H Q=>∃x y c t b,xs= [x,y]/\AfY y c/\TyX K H x t/\PySem.W.kitOne K t c=u_ b/\Q (.bl b) H):=by
 rw[2,xs,us,Q,I,r,h];erw[h,x,y,c,t,b,rfl,hc,ty,e,q];erw[Bg r,u,u',rfl,ru,O];subst U;let e':u'=c:=by cases hc<;>exact O
 subst e';exact uQ (n:=1) I.tk (NK I ru ty e λtk htk=>(.bl b,H,I.tok tk,1,q))
def WG:∀{cs:oj o3}{its:oj o6},im (cs.map V.ref) its->its=cs.map VB
 | [],_,h=>by rw[h,0];rfl|c::cs,_,h=>by
  cases h with
  |cons O U=>
   rw[WG U,show _=VB c from O]
   rfl
def AS {K:o0}(hK:X.K=K):yT X (.builtin "isinstance") (λxs H Q=>∃(a C p:o3) (cs:oj o3) (b:Bool),xs= [-a,-p]/\H a=u_ (Bc a C)/\H p=u_ (.tup (cs.map V.ref))/\AwV.xH K C/\PySem.W.kitAny K (-C) (cs.map VB)=u_ b/\Q (.bl b) H):=by
 rw[2,xs,us,Q,I,r,h];erw[h,a,C,p,cs,b,rfl,ea,hp,Z,e,q];erw[Bg r,u,u',rfl,ru,O];subst hK;rw[ru,0];rw[O,0];obtain⟨_,its,rv,o,ho,hc,n,hd⟩:=(show QT X.prog X.w H s.heap p (.tup (cs.map V.ref)) from I.hok p _ hp)
 rw[WG rv,0];erw[o,ac,U,aa,osl];simp only at hc hd;subst hc hd;obtain⟨pe,_,_⟩:=(show QT X.prog X.w H s.heap a (Bc a C) from I.hok a _ ea)
 exact uQ (n:=1) I.tk (PySem.W.kia_tup (AwV.exc_kit Z) I.kIn pe ho e (λz=>nomatch z) λtk htk=>(.bl b,H,I.tok tk,1,q))
end
section
variable {X:Cx}
def ZD:∀{ls:oj Str}{its:oj o6},im (ls.map V.str) its->FT its ls
 | [],_,h=>by rw[h,0];exact .nil|z::ls,_,h=>by
  cases h with
  |cons O U=>
   erw[O,t,e];rw[e];exact .cons z t (ZD U)
def ZS:∀{ls:oj Str}{its:oj o6},FT its ls->im (ls.map V.str) its
 |_,_,.nil=> .nil|_,_,.cons x t h=> .cons [t:1] (ZS h)
def wp:∀{xs:oj V}{us:oj o6},↑xs=↑us->(∀(j:Nat) (x:V) (v:o6),xs[j]? =u_ x->us[j]? =u_ v->ii x v)->im xs us
 | [],[],_,_=> .nil|x::xs,u::us,hl,h=> .cons (h 0 x u rfl rfl) (wp (by simpa using hl) λj y v h1 h2=>h (j+1) y v (by simpa using h1) (by simpa using h2))| [],_::_,hl,_=>by simp at hl|_::_,[],hl,_=>by simp at hl
def zh (hc:X.calm=v_):yT X (.builtin "sorted") (λxs H Q=>∃(d:o3) (kvs:oj (Key×V)) (ls:oj Str),xs= [-d]/\Rd H d (.dK kvs)/\kvs.map (·.1)=ls.map Vx/\↑ls<64/\∀(ms:oj Str) (q:o3),ms.Perm ls->HJ ms=v_->H q=U_->Q (-q) (upd H q (.lst (ms.map V.str)))):=by
 rw[2,xs,us,Q,I,r,h];erw[h,d,kvs,ls,rfl,hd,hk,am,q];erw[jL r,u,rfl,ru];rw[ru,0];erw[zI I.hok hd,hz,lo,vs,ae,dd];erw[id dd,o,es,ep,ho];let af:s.heap.DictAt (Qc X.prog X.w) d vs ep:=[o:es:ho];let aa:↑vs=↑ls:=by
  let h1:=Aa Gi hk;rw[uc,uc] at h1;rw[<-↑ae,h1]
 refine uQ (n:=1) I.tk ?_;refine PySem.Calls.call_function_entry Pn RC R6 (rO _) ?_;unfold Gg.«sorted»;refine A8 (m:=checkCount "sorted" 1 1 _) (uu ?_);refine A8 (PySem.W.kdu_collect (A:=X.A.in1) (PySem.W.kdl_dict lo) (I.ok.hd hc) af (by rw[aa,uF];omega) λh' tk U ag O=>?_)
 let hS:FT U.toList ls:=by
  refine ZD (wp (by rw[uc,vi];exact aa.symm.trans O.1.symm) λj x v hx hv=>?_)
  rw[uG] at hx;cases ac:ls[j]? with
  |none=>rw[ac,0] at hx|some z=>
   rw[ac,0] at hx;obtain⟨k,y,e1,e2⟩:=O.2 j v (by rwa[<-Ui])
   let e3:(kvs.map (·.1))[j]? =u_ k:=by
    rw[ae.keys,uG,e1]
    rfl
   rw[hk,uG,ac,0] at e3;rcases QA (show Aq (Vx z) v=v_ from e2) with⟨i,t,e4,e5⟩|⟨z',t,e4,e5⟩
   .rw[e4,0]
   .rw[e4,0];exact[t:e5]
 let ah:↑U.toList=↑ls:=by rw[vi,O.1,aa]
 refine A8 (Vo ?_ (by rw[ah,uF];omega))
 let ad:(h'.push (gV "list" U.toList.toArray 0)).get? h'.objs.size=u_ (gV "list" U.toList.toArray 0):=uC _ rfl;refine A8 (VX (U7 PR [_:ad:1] RW (list_sort_treeK strKind_oneLt ad hS.keysOf (λv₁ v₂ rest e=>keyKind_strs (by rwa[<-e])) () λak a1 a2=>[0:?_]) (Pl _)))
 refine uu [0:?_];erw[sorted_out_str hS a1 a2,ms,b1,b2,b3];erw[sortedHeap_at (out:=(Vz ak).map (·.2)) ad,e,he];let al:↑ms=↑ls:=b2.length_eq;intro htk;let I':Inv X oq σ H {s with heap:=h',toks:=tk}:=I.kept ag
 rw[_,.ref h'.objs.size,_,I'.laid (t':=tk) (o:= .lst (ms.map V.str)) (λb u w=>?_) (Vv _) (?_,_,e,ZS b1,he),1,q ms _ b2 b3 (I'.hok.fresh (Vv _))]
 .let hb:=uD w;rw[sortedHeap_old (uM hb) (by rw[size_push'];exact Nat.lt_succ_of_lt hb)]
  exact ug _ w
 .rw[uc,al,uF];omega
def AR (U:X.calm=v_):yT X (.builtin "sorted") (λxs H Q=>∃(d:o3) (kvs:oj (Key×V)) (ls:oj Str),xs= [-d]/\H d=u_ (.dK kvs)/\kvs.map (·.1)=ls.map Vx/\↑ls<64/\∀(O:oj Str) (q:o3),O.Perm ls->HJ O=v_->H q=U_->Q (-q) (upd H q (.lst (O.map V.str)))):=λoq s σ H xs us Q I r ⟨d,kvs,ls,e,hd,h⟩=>zh U oq s σ H xs us Q I r (d,kvs,ls,e,.inl hd,h)
abbrev Itd (d:o3)(o:Obj):It:=
 ⟨λi H=>∃kvs,H d=u_ (.frz o (.dK kvs))/\i<↑kvs,λi H x H'=>H'=H/\∀kvs,H d=u_ (.frz o (.dK kvs))->(kvs.map λp=>kV p.1)[i]? =u_ x,λi H=>∃kvs,H d=u_ (.frz o (.dK kvs))/\↑kvs<=i⟩
variable {w:og}
def ET {P:o9}{es:oj HM}{kvs:oj (Key×o6)}(h:Pairs (Qc P w) es kvs):↑es=↑kvs:=↑h
variable {H:Hp}{h:o8}{o:Obj}{es:Array HM}
def Lo {P:o9}{d:o3}{kvs:oj (Key×V)}{ep:Nat}(ok:HOk P w H h)(e:H d=u_ (.frz o (.dK kvs)))(hd:o.data= .dict es ep):
  (d==VY)=Vt/\∃vs,KV kvs vs/\h.DictAt (Qc P w) d vs ep/\↑vs=es.size/\↑kvs<=sizeLine:=by
 obtain⟨U,hz,lo,vs,r,o',aa,ac,O,c1,c2,c3,c4,c5⟩:=(show QT P w H h d (.frz o (.dK kvs)) from ok d _ e)
 rw[U,0] at O;rw[hd,0] at c2;exact(lo,vs,r,(o,es,U,c1,hd,c3,c4,c5),by rw[<-vi];exact(ET c4).symm,hz)
def IU {k:Key}{v:o6}(h:Aq k v=v_):ii (kV k) v:=by
 rcases QA h with⟨i,t,rfl,rfl⟩|⟨z,t,rfl,rfl⟩
 .exact[t:1]
 .exact[t:1]
variable {K:o0}{tg:Expr}
def D4 {P:o9}(d it:o3){ep:Nat}(hd:o.data= .dict es ep):Sw P w K tg (Itd d o) [it] it (λi h=>h.IsKeyIter it d i es.size ep) where
 mem:=by simp
 obj:=λi h st b O=>by
  let e:b=it:=by simpa using O
  subst e;erw[st,o,e,c,d,<-⟨o,e,λv z=>by rw[d,0] at z⟩]
 keep:=λi h h' st k=>by
  erw[st,o,e,c,dd,<-(o,k it (by simp) o e,c,dd)]
 item:=by
  rw[24];subst hP hw hK;erw[hg,kvs,hq,hx];erw[Lo I.hok hq hd,lo,vs,r,dat,hl,_];let ad:=↑r;rw[21]
  obtain⟨⟨k,v⟩,U⟩:∃p,vs[i]? =u_ p:=[_:um ()]
  refine wpAny_pyNext_dict_item (by rwa[hl]) dat U λae h' hk aa sb=>?_
  let I1:Inv X oq σ H {s with heap:=h'}:=I.turned (t':=s.toks) (λb o O e=>(sb.2 b O).trans e) f0 f1 f3 f4 f5
  erw[id aa,oi,e,c,di];refine⟨ae,1,DN (s:={s with heap:=h'}) e c di () (kV k,H,I1,IU hk,[1:λaf ac=>?_],by rw[<-hl];exact aa,λb O=>(hf b O).1)⟩
  rw[hq,0] at ac;let e3:(kvs.map (·.1))[i]? =u_ k:=by
   rw[r.keys,uG,U]
   rfl
  rw[uG] at e3⊢;cases h4:kvs[i]? with
  |none=>rw[h4,0] at e3|some p=>
   rw[h4,0] at e3
   rfl
 done:=by
  rw[24];subst hP hw hK;erw[hg,kvs,hq,hx];erw[Lo I.hok hq hd,lo,vs,r,dat,hl,_];let ad:=↑r;rw[21]
  exact wpAny_pyNext_dict_end (I.ok.hd hc) (by rwa[hl]) dat (UU ()) λh' eb=>[1:I.turned (t':=s.toks) (λb o O e=>eb b o O e) f0 f1 f3 f4 f5]
 self:=λ_ _ _ _ _ st h=>wpAny_pyIter_keyiter st h
abbrev Afx (tl:TE):TI:=λσ H R=>tl σ H λx H1=>∃d o kvs,x= .ref d/\H1 d=u_ (.frz o (.dK kvs))/\R (Itd d o) H1
def KY {tg l:Expr}{tl:TE}(hl:PE X l tl):PI X tg l (Afx tl):=by
 rw[2,R,I,h];refine thn (hl oq s σ H _ I h) λv s1 zq=>?_;erw[zq,x,H1,O,r1,q1];erw[q1,d,o,kvs,rfl,hq,q];rw[r1,0];obtain⟨ho,_,lo,vs,r,o',es,ep,U,c1,c2,_⟩:=(show QT X.prog X.w H1 s1.heap d (.frz o (.dK kvs)) from O.hok d _ hq)
 rw[ho,0] at U;erw[Lo O.hok hq c2,lo,vs,r,dat,hl,_];refine wpAny_pyIter_dict lo dat ?_;refine(#[0,s1],[#[0,s1]],_,_,H1,1,O.kept (t':=s1.toks) λb o e=>ug _ e,D4 d _ c2,(_,uC _ rfl,1,by rw[hl];rfl),λb hb=>?_,q)
 let e:b=#[0,s1]:=by simpa using hb
 subst e;exact O.fpOk (Vv _) (O.hok.fresh (Vv _))
end
end L2
namespace PySem.AwK
open PySem Builtin Builtin.ObjectAttr
def Abv:HP (.type "list") "keys"=pure none:=by rw[To,UV];kernel_rfl
section
variable {prog:o9}{w:og}{A:oh}{E:#[14]}{s:o7}
def qaN:isSubtype (.type "AttributeError") (.type "AttributeError")=pure true:=by rw[rY];kernel_rfl
def Du {α:Type}{o:o6}{name O:Str}{Q:α->o7->Prop}(hh:A.handled=U_)(hm:↑O<=Vw)
  (hq:∀h' ac e,(∀b ob,s.heap.get? b=u_ ob->h'.get? b=u_ ob)->(∃oe,h'.get? e=u_ oe/\oe.cls= .type "AttributeError")->E (-e) {s with heap:=h',toks:=ac}):
  Vu #[w,w] A (Pk o name O:Sem α) Q E s:=by
 unfold Pk;refine A8 (wpAny_mkStr (A8 ?_) hm);unfold newExc newTuple;refine A8 (vq ?_ (by show(1:Nat)<=Vw;rw[uF];decide))
 refine A8 (m:=FN _ _) (Td (a:=Gz) (by kernel_rfl) ?_)
 obtain⟨h1,aa⟩:∃h1,h1=s.heap.push {cls:= .type "tuple",data:= .seq #[G6 O s.toks]}:=⟨0⟩;let k1:∀b ob,s.heap.get? b=u_ ob->h1.get? b=u_ ob:=λb ob e=>by rw[aa];exact ug _ e
 show Vu #[w,w] A (newObj (.type "AttributeError") (.fields #[.ref #[0,s],.none,.none,.none,.bool Vt,.none,GC,GC])) _ E {s with heap:=s.heap.push {cls:= .type "tuple",data:= .seq #[G6 O s.toks]},toks:=s.toks+1}
 rw[<-aa];refine vq ?_ (by unfold sizeOk;first|trivial|(rw[uF];simp)|decide)
 obtain⟨h2,U⟩:∃h2,h2=h1.push {cls:= .type "AttributeError",data:= .fields #[.ref #[0,s],.none,.none,.none,.bool Vt,.none,GC,GC]}:=⟨0⟩;let k2:∀b ob,h1.get? b=u_ ob->h2.get? b=u_ ob:=λb ob e=>by rw[U];exact ug _ e
 let e2:h2.get? h1.objs.size=u_ {cls:= .type "AttributeError",data:= .fields #[.ref #[0,s],.none,.none,.none,.bool Vt,.none,GC,GC]}:=by rw[U];exact uC _ rfl
 show Vu #[w,w] A (do let x<-mkText name;noteAttr (-h1.objs.size) o x;raiseNew (-h1.objs.size)) Q E {s with heap:=h1.push {cls:= .type "AttributeError",data:= .fields #[.ref #[0,s],.none,.none,.none,.bool Vt,.none,GC,GC]},toks:=s.toks+1}
 rw[<-U];let ne:∀b ob,h1.get? b=u_ ob->b≠h1.objs.size:=λb ob e=>uM (uD e);generalize h1.objs.size=e at e2 ne⊢;refine A8 (TJ (A8 ?_));let hT:∀g d t os,((h2,g,d,t,os):o7).TypeIs (-e) "AttributeError":=λ_ _ _ _=>[_:e2:1];unfold noteAttr lacksNameAndObj;refine A8 (A8 (Vb (hT _ _ _ _) qaN ?_));simp![tN,uY,Uq];refine A8 (Tw e2 ?_);dsimp only;rw[A4 (by simp[GC,GQ]),A4 (by simp[GC,doubtfulMember,GQ])]
 refine uu ?_;rw[A6 rfl];refine A8 (UB (A8 (Gn (hT _ _ _ _) ?_)));show Vu #[w,w] A (layMembers e 6 #[G6 name (s.toks+1),o]) _ E _;unfold layMembers;refine A8 (Tw e2 ?_);dsimp only;refine wpAny_update e2 ?_;let e3:=T7 (RT λvs=>vs.extract 0 6++ #[G6 name (s.toks+1),o]) e2 rfl;let k3:∀b ob,b≠e->h2.get? b=u_ ob->(h2.update e (RT λvs=>vs.extract 0 6++ #[G6 name (s.toks+1),o])).get? b=u_ ob:=λb ob hb q=>(vO _ _ (Uv hb)).trans q;exact wpAny_raiseNew_none hh (hq _ _ e (λb ob q=>k3 b ob (ne b ob (k1 b ob q)) (k2 b ob (k1 b ob q))) [_:e3:1])
end
section
variable {prog:o9}{w:og}{A:oh}{E:#[14]}{h:o8}{g:Array F0}{d:Drawn}{t:Nat}{os:OsState}{a:o3}{its:Array o6}{n:Nat}{sl:Array (om o6)}
def Ny {tk:Tok}{Q:Fin->o7->Prop}(hh:A.handled=U_)(hx:h.get? a=u_ {cls:= .type "list",dict:=U_,data:= .seq its n,slots:=sl})
  (hq:∀h' O e,(∀b ob,h.get? b=u_ ob->h'.get? b=u_ ob)->(∃U,h'.get? e=u_ U/\U.cls= .type "AttributeError")->E (-e) (h',g,d,O,os)):
  Vu #[w,w] A (Gg.«object.__getattribute__» [[-a,.str "keys" tk]:[]]) Q E (h,g,d,t,os):=by
 let hT:((h,g,d,t,os):o7).TypeIs (-a) "list":=[_:hx:1];let f4:=Abv
 repeat (any_goals (first|assumption|wp_step))
 exact Du hh (by rw[uF];rw[12]) hq
def Abs {tk:Tok}{R:GP->o7->Prop}(hh:A.handled=U_)(U:h.get? a=u_ {cls:= .type "list",dict:=U_,data:= .seq its n,slots:=sl})
  (hq:∀h' O e,(∀b ob,h.get? b=u_ ob->h'.get? b=u_ ob)->(∃oe,h'.get? e=u_ oe/\oe.cls= .type "AttributeError")->R (.error (-e)) (h',g,d,O,os)):
  G9 #[w,w] A (.call (.builtin "list.__getattribute__") [[-a,.str "keys" tk]:[]]) R (h,g,d,t,os):=
 TH F.slot_list_getattribute.plain F.entry_list_ga (F.slot_list_getattribute.check _ _ _ _ _ _ _ _ (show((h,g,d,t,os):o7).TypeIs (-a) "list" from[_:U:1]) (F.args_list_getattribute_2 _ _) (Ny hh U hq))
def Abr {Q:om o6->o7->Prop}(hh:A.handled=U_)(U:h.get? a=u_ {cls:= .type "list",dict:=U_,data:= .seq its n,slots:=sl})
  (hq:∀h' O,(∀b ob,h.get? b=u_ ob->h'.get? b=u_ ob)->Q U_ (h',g,d,O,os)):Vu #[w,w] A (T9 (-a) "keys") Q E (h,g,d,t,os):=by
 let hT:∀t,((h,g,d,t,os):o7).TypeIs (-a) "list":=λt=>[_:U:1];unfold T9 getAttrBy?;refine A8 (TJ (A8 (UZ ?_)));unfold getAttrBy;refine VX (A8 (Gn (hT _) ?_));rw[F.slot_list_getattribute.lookup];refine A8 (uu ?_);show Vu #[w,w] A (Ti (-a) _ (.type "list") (.builtin "list.__getattribute__") Vt Vt) _ _ _;unfold Ti;refine A8 (m:=hookBefore _) (uu ?_);refine A8 (UZ (VX ?_));show Vu #[w,w] A (Tb (.builtin "list.__getattribute__") (-a) _) _ _ _;unfold Tb;rw[F.slot_list_getattribute.bind];refine A8 (uu (HL (Abs hh U λh' O e k zq=>?_)));erw[zq,oe,e1,e2];let hE:∀t,((h',g,d,t,os):o7).TypeIs (-e) "AttributeError":=λt=>[_:e1:e2];show Vu #[w,w] A (RA (-a) _ (.type "list") (-e) U_ Vt Vt) _ _ (h',g,d,O,os);unfold RA;refine A8 (Vb (hE _) qaN ?_);rw[A6 rfl];let lg:hookBehind (.type "list") U_=pure none:=by
  show HP (.type "list") "__getattr__"=pure U_;rw[To,UV]
  kernel_rfl
 rw[lg];refine A8 (uu ?_);show Vu #[w,w] A (RV (-a) _ (-e) Vt Vt) _ _ _;unfold RV;refine pK ?_;refine A8 (Vb (hE _) qaN ?_);rw[A6 rfl];exact uu (hq h' O k)
end
def Kz:entryFor table "dict.update.loop"=u_ Gg.«dict.update.loop»:=entryFor_of_fast (by kernel_rfl)
def xi:plainId "dict.update.loop"=true:=by rw[12]
section
variable {prog:o9}{w:og}{A:oh}{E:#[14]}{K:Type}[DecidableEq K]{knd:KeyKind prog w K}
abbrev addAll (cur:oj (K×o6)):oj (K×o6)->oj (K×o6)
 | []=>cur|p::r=>addAll (Hn cur p.1 p.2) r
structure Aen (h:o8)(d it:o3)(v:o6)(p:K×o6):Prop where
 at_:∃(t:o3) (o:Obj) (k:o6) (n:Nat),v= .ref t/\t≠d/\t≠it/\h.get? t=u_ o/\o.cls= .type "tuple"/\o.data= .seq #[k,p.2] n/\knd.is p.1 k=v_
def Dx (hh:A.handled=U_){d it l:o3}{items:Array o6}{ps:oj (K×o6)}{R:GP->o7->Prop}(au:d≠l)(aw:it≠l)(ac:d≠it)(hn:items.size=↑ps)(hz:2*↑ps<=Vw)(res:o6):
  ∀(m i:Nat) (s:o7) (O:oj (K×o6)),i+m=↑ps->s.heap.IsListIter it l i->s.heap.IsList l items->s.heap.DictOf knd d O->↑O<=i->
  (∀(j:Nat) (v:o6) (p:K×o6),items[j]? =u_ v->ps[j]? =u_ p->Aen (knd:=knd) s.heap d it v p)->
  (∀h' ad,h'.DictOf knd d (addAll O (ps.drop i))->(∀b o,b≠d->b≠it->s.heap.get? b=u_ o->h'.get? b=u_ o)->R (.ok (.ret res)) {s with heap:=h',toks:=ad})->
  G9 #[w,w] A (.builtin "dict.update.loop" [[-d,-it,GQ i,res]:[]]) R s:=by
 intro m
 induction m with
 |zero=>
  intro i s O hm ae hl hd hc hp hR;refine Vi Kz ?_;rw[V6 xi _];show Vu _ A.in1 (GT (-it)>>=_) _ _ s;refine A8 (pA (A:=A.in1) hh ae hl (by rw[Array.getElem?_eq_none ()]) λh' eb=>?_)
  let af:h'.DictOf knd d O:=by
   erw[hd,o,es,ep,ho,r,<-(o,es,ep,eb d o ac ho,r)]
  have:=hR h' s.toks (by rwa[List.drop_eq_nil_of_le ()]) λb o aa U e=>eb b o U e
  show Vu #[w,w] A.in1 (Dict.addKeywords d []>>=λ_=>ret res) _ _ _;refine A8 (m:=Dict.addKeywords d []) (uu ?_);exact uu this
 |succ m ih=>
  intro i s O hm ae hl hd hc hp hR;refine Vi Kz ?_;rw[V6 xi _];let hi:i<items.size:=by omega
  let ah:i<↑ps:=by omega
  let hx:items[i]? =u_ items[i]:=Array.getElem?_eq_getElem hi;let ax:ps[i]? =u_ ps[i]:=um ah;erw[(hp i _ _ hx ax).at_,t,o,k,n,ev,aE,ay,ho,aA,aB,hk];rw[ev] at hx;show Vu _ A.in1 (GT (-it)>>=_) _ _ s;refine A8 (Rx (A:=A.in1) ae hl hx λh1 ak ag=>?_);let al:h1.get? t=u_ o:=(ag.2 t ay).trans ho;let hT:(({s with heap:=h1}:o7)).TypeIs (-t) "tuple":=[_:al:aA]
  let am:h1.DictOf knd d O:=hd.sameBut ag ac;dsimp only;refine A8 (VX (A8 (wpAny_tryCatch ?_)));unfold Dict.pairItems;refine A8 (Gn hT ?_);rw[A6 ()]
  refine A8 ?_;unfold rc;refine A8 (Tw al ?_);rw[aB];refine uu (uu ?_);show Vu #[w,w] A.in1 (GS [k,ps[i].2] (dictSet d k ps[i].2)) _ _ _;refine VX (wpAny_dictSet_pairs hk am (λh2 aC ao=>?_) ())
  let ap:h2.IsListIter it l (i+1):=by
   erw[ak,oi,e,c,<-[oi:(ao.2 it (Uv ac)).trans e:c]]
  let keep:∀b ob,b≠d->b≠it->s.heap.get? b=u_ ob->h2.get? b=u_ ob:=λb ob aa U e=>(ao.2 b aa).trans ((ag.2 b U).trans e);let aD:h2.IsList l items:=by
   erw[hl,ol,e,c,<-[ol:keep l ol (Uv au) (Uv aw) e:c]]
  refine uu [Vp xi _:?_];let aq:↑(Hn O ps[i].1 ps[i].2)<=i+1:=by
   unfold Hn;split
   .rw[uc];omega
   .rw[uE];show ↑O+1<=i+1;omega
  refine ih (i+1) _ _ () ap aD aC aq (λj v p h1 h2=>?_) λh' ad af kp=>?_
  .erw[(hp j v p h1 h2).at_,t',o',k',n',e1,e2,e3,e4,e5,<-⟨(t',o',k',n',e1,e2,e3,keep t' o' e2 e3 e4,e5)⟩]
  .refine hR h' ad ?_ λb ob aa U e=>kp b ob aa U (keep b ob aa U e);rw[vt ah];exact af
def dict_pairs (hh:A.handled=U_){s:o7}{l:o3}{items:Array o6}{n:Nat}{sl:Array (om o6)}{ps:oj (K×o6)}{Q:#[14]}(hl:s.heap.get? l=u_ {cls:= .type "list",dict:=U_,data:= .seq items n,slots:=sl})(hn:items.size=↑ps)(hz:2*↑ps<=Vw)
  (hp:∀(j:Nat) (v:o6) (p:K×o6),items[j]? =u_ v->ps[j]? =u_ p->∃(t:o3) (o:Obj) (k:o6) (n:Nat),v= .ref t/\s.heap.get? t=u_ o/\o.cls= .type "tuple"/\o.data= .seq #[k,p.2] n/\knd.is p.1 k=v_)
  (hQ:∀h' ac,h'.DictOf knd #[0,s] (addAll [] ps)->(∀b o,s.heap.get? b=u_ o->h'.get? b=u_ o)->Q (.ref #[0,s]) {s with heap:=h',toks:=ac}):
  Vu #[w,w] A (call (.type "dict") [-l]) Q E s:=by
 refine T4 (Q₁:=λobj s₁=>obj= .ref #[0,s]/\s₁={s with heap:=s.heap.push {cls:= .type "dict",data:= .dict #[]}}) F.kt_called_dict (F.kt_typeCall_dict_1 _) F.entry_dict_init (kt_code_dict_new _ [1:1]) ?_
 rintro obj s₁ ⟨rfl,rfl⟩;let U:(s.heap.push {cls:= .type "dict",data:= .dict #[]}).DictOf knd #[0,s] []:=pG s.heap;rw[_,U.typeIs,F.args_dict_init_2 _ _];unfold Gg.«dict.__init__»;refine A8 ?_;unfold oG;refine A8 (wpAny_notOrdered_dict U.typeIs ?_);refine(show Vu _ _ (pure (#[0,s],[VB l])) _ _ _ from ?_)
 refine uu ?_;refine(show Vu _ _ (RD "dict.__init__" #[0,s] (-l) [] .none) _ _ _ from ?_)
 unfold RD;let aa:(s.heap.push {cls:= .type "dict",data:= .dict #[]}).get? l=u_ {cls:= .type "list",dict:=U_,data:= .seq items n,slots:=sl}:=ug _ hl;refine A8 (Gn (T:="list") [_:aa:1] ?_);rw[A6 ()]
 refine A8 (Abr (A:=A.in1.in1) hh aa λh2 am k2=>?_);rw[A6 (show(U_:om o6).isNone=v_ from rfl)]
 let ad:l<#[0,s]:=uD hl;let af:h2.IsList l items:=(_,k2 _ _ aa,1,n,1);refine A8 (UB (A8 (Vk af ?_)));let ae:h2.DictOf knd #[0,s] []:=by
  erw[U,o,es,ep,ho,r,<-(o,es,ep,k2 _ _ ho,r)]
 let O:#[0,s]<h2.objs.size:=by
  erw[ae,o,es,ep,ho,r,<-uD ho]
 let k1:∀b o,s.heap.get? b=u_ o->h2.get? b=u_ o:=λb o e=>k2 b o (ug _ e);let k3:∀b o,h2.get? b=u_ o->(h2.push {cls:= .type "list_iterator",data:= .fields #[-l,.int 0 0]}).get? b=u_ o:=λb o e=>ug _ e;let ag:(h2.push {cls:= .type "list_iterator",data:= .fields #[-l,.int 0 0]}).IsList l items:=(_,k3 _ _ (k2 _ _ aa),1,n,1);let ah:(h2.push {cls:= .type "list_iterator",data:= .fields #[-l,.int 0 0]}).DictOf knd #[0,s] []:=ae.push _;refine uu [Vp xi _:Dx (A:=A.in1) hh (d:=#[0,s]) (it:=h2.objs.size) (l:=l) (items:=items) (ps:=ps) (vZ ad) (vZ (TB ad O)) (uM O) hn hz .none ↑ps 0 _ [] () (_,uC _ rfl,1,1) ag ah (Vv _) (λj v p h1 ak=>?_) λh' ac al kp=>?_]
 .erw[hp j v p h1 ak,t,o,k,n',e1,e2,e3,e4,e5];let ht:=uD e2;exact⟨(t,o,k,n',e1,uM ht,uM (TB ht O),k3 _ _ (k1 _ _ e2),e3,e4,e5)⟩
 .rw[1,hQ h' ac al λb o e=>?_];let hb:=uD e;exact kp b o (uM hb) (uM (TB hb O)) (k3 _ _ (k1 _ _ e))
end
end PySem.AwK
namespace L2
open PySem PySem.Spec PyProof.Rows
section
variable {X:Cx}
abbrev iy (ps:oj (Str×V)):oj (Key×V):=ps.map λp=>(Vx p.1,p.2)
def wC (ps:oj (Str×V)):(iy ps).map (·.1)=(#[17]).map Sum.inr:=by
 unfold iy;rw[uR,uR]
 rfl
def Dk {kvs:oj (Key×o6)}{k:Key}{v:o6}(h:k∉kvs.map (·.1)):Hn kvs k v=kvs++ [(k,v)]:=by
 unfold Hn;rw[A4];intro q;erw[List.any_eq_true.mp q,p,O,e,<-h (Af.mpr [p:O:uq e])]
def KC:∀{ps O:oj (Key×o6)},((O++ps).map (·.1)).Nodup->AwK.addAll O ps=O++ps
 | [],O,_=>(vg O).symm|p::r,O,h=>by
  unfold AwK.addAll;let U:p.1∉O.map (·.1):=by
   rw[uA,ur] at h;intro q;exact(List.nodup_append.mp h).2.2 _ q _ uj rfl
  rw[Dk U,KC (by rw[Ut];exact h),Ut]
  rfl
set_option tactic.hygienic true in
def s9 {P:o9}{w:og}{H:Hp}{h:o8}(ok:HOk P w H h):∀{ts:oj o3}{ps:oj (Str×V)},↑ts=↑ps->(∀(i:Nat) (t:o3) (p:Str×V),ts[i]? =u_ t->ps[i]? =u_ p->H t=u_ (-[.str p.1,p.2]))->
  ∃pv:oj (Key×o6),KV (iy ps) pv/\∀(j:Nat) (v:o6) (p:Key×o6),(ts.map VB)[j]? =u_ v->pv[j]? =u_ p->∃(t:o3) (o:Obj) (k:o6) (n:Nat),v= .ref t/\h.get? t=u_ o/\o.cls= .type "tuple"/\o.data= .seq #[k,p.2] n/\(Qc P w).is p.1 k=v_
 | [],[],_,_=>⟨[],.nil,λj v p e=>by simp at e⟩|t::ts,p::ps,hl,hp=>by
  obtain⟨pv,h1,h2⟩:=s9 ok (ts:=ts) (ps:=ps) (by simpa using hl) λi t' p' O e2=>hp (i+1) t' p' (by simpa using O) (by simpa using e2)
  obtain⟨_,its,rv,o,U,hc,n,hd⟩:=(show QT P w H h t (-[.str p.1,p.2]) from ok t _ (hp 0 t p rfl rfl))
  cases rv with
  |cons r1 rv=>
  cases rv with
  |cons r2 rv=>
  cases rv with
  |nil=>
  erw[r1,tk,rfl]
  rename_i u
  rw[_,(Vx p.1,u)::pv,.cons [1:r2] h1,λj v q O e2=>?_];cases j with
  |zero=>
   simp![ur,List.getElem?_cons_zero,oH] at O e2;subst O e2;exact(t,o,_,n,1,U,hc,hd,wA _ _ _ _)
  |succ j=>exact h2 j v q (by simpa using O) (by simpa using e2)
 | [],_::_,hl,_=>by simp at hl|_::_,[],hl,_=>by simp at hl
abbrev De (H:Hp)(l:o3)(ps:oj (Str×V)):Prop:=∃ts:oj o3,H l=u_ (.lst (ts.map V.ref))/\↑ts=↑ps/\∀(i:Nat) (t:o3) (p:Str×V),ts[i]? =u_ t->ps[i]? =u_ p->H t=u_ (-[.str p.1,p.2])
def LH {oq:#[16]}{σ:St}{H:Hp}{s:o7}{l:o3}{ps:oj (Str×V)}{Q:#[14]}(hc:X.calm=v_)(I:#[I])(hl:De H l ps)(hn:(#[17]).Nodup)(hz:↑ps<=1000)
  (h:∀h' O pv,0<O->(∀b o,s.heap.get? b=u_ o->h'.get? b=u_ o)->KV (iy ps) pv->h'.DictOf (Qc X.prog X.w) #[0,s] pv->Q (.ref #[0,s]) {s with heap:=h',toks:=O}):
  Vu #[X,X] X.A (call (.type "dict") [-l]) Q X.xe s:=by
 erw[hl,ts,e1,e2,e3];obtain⟨_,its,n,rv,ho⟩:=(show QT X.prog X.w H s.heap l (.lst (ts.map V.ref)) from I.hok l _ e1)
 rw[WG rv,0];erw[s9 I.hok e2 e3,pv,r,hp];let ad:↑pv=↑ps:=by
  rw[<-↑r];unfold iy;rw[uc]
 let aa:(pv.map (·.1)).Nodup:=by
  rw[<-r.keys,wC];exact P_ _ (λa b ac e=>ac (UM e)) hn
 refine uQ (n:=1) I.tk ?_;refine AwK.dict_pairs (knd:=Qc X.prog X.w) (I.ok.hd hc) (ps:=pv) ho (by rw[uz,uc];omega) (by rw[uF];omega) (λj v p h1 h2=>hp j v p (by simpa using h1) h2) λh' O U kp=>?_
 rw[KC (by simpa using aa),pQ] at U
 exact λhtk=>h h' O pv htk kp r U
def DQ (hc:X.calm=v_):yT X (.type "dict") (λxs H Q=>∃(l:o3) (ps:oj (Str×V)),xs= [-l]/\De H l ps/\(#[17]).Nodup/\↑ps<=1000/\∀q,H q=U_->Q (-q) (upd H q (.dK (iy ps)))):=by
 rw[2,xs,us,Q,I,r,h];erw[h,l,ps,rfl,hl,hn,hz,q];erw[jL r,u,rfl,ru];rw[ru,0];refine LH hc I hl hn hz λh' aa pv htk kp rel dd=>?_;let O:(#[0,s]==VY)=false:=by
  rw[Ve];exact vZ I.big
 let U:↑(iy ps)<=sizeLine:=by unfold iy;rw[uc,uF];omega
 exact(.ref #[0,s],_,I.laid kp (Vv _) (C7 U O rel dd),1,q _ I.fresh)
def kE (hc:X.calm=v_):yT X (.type "dict") (λxs H Q=>∃(l:o3) (ps:oj (Str×V)),xs= [-l]/\De H l ps/\(#[17]).Nodup/\↑ps<=1000/\∀q o,H q=U_->Q (-q) (upd H q (.frz o (.dK (iy ps))))):=by
 rw[2,xs,us,Q,I,r,h];erw[h,l,ps,rfl,hl,hn,hz,q];erw[jL r,u,rfl,ru];rw[ru,0];refine LH hc I hl hn hz λh' aa pv htk kp rel dd=>?_;let O:(#[0,s]==VY)=false:=by
  rw[Ve];exact vZ I.big
 let U:↑(iy ps)<=sizeLine:=by unfold iy;rw[uc,uF];omega
 erw[id dd,o,es,ep,ho,rr,<-(.ref #[0,s],_,I.laid (o:= .frz o (.dK (iy ps))) kp (Vv _) [ho:C7 U O rel dd],1,q _ o I.fresh)]
end
mutual
noncomputable def nD:D->Bool
 | .non=>v_| .str _=>v_| .int _=>v_| .tup xs=>nL xs|_=>Vt
noncomputable def nL:oj D->Bool
 | []=>v_|x::r=>nD x&&nL r
end
def IA:∀{xs:oj D}{j:Nat}{x:D},nL xs=v_->xs[j]? =u_ x->nD x=v_
 | [],_,_,_,e=>by simp at e|y::r,0,x,h,e=>by
  let h':nD y=v_/\nL r=true:=by simpa [nL] using h
  have:y=x:=by simpa using e
  exact this▸h'.1
 |y::r,j+1,x,h,e=>by
  let h':nD y=v_/\nL r=true:=by simpa [nL] using h
  exact IA h'.2 (by simpa using e)
mutual
noncomputable def eqD:D->D->Bool
 | .non,.non=>v_| .str a,.str b=>a==b| .int a,.int b=>a==b| .tup xs,.tup ys=>eqL xs ys|_,_=>Vt
noncomputable def eqL:oj D->oj D->Bool
 | [],[]=>v_|x::r,y::q=>eqD x y&&eqL r q|_,_=>Vt
end
mutual
theorem BN:∀{d e:D},nD d=v_->(eqD d e=v_↔d=e)
 | .non,e,_=>by cases e<;>simp[eqD]| .str a,e,_=>by cases e<;>simp[eqD]| .int a,e,_=>by cases e<;>simp[eqD]| .tup xs,¬ys,h=>by
  have:=eqXL_iff (xs:=xs) (ys:=ys) (by simpa [nD] using h)
  simp![eqD,this,D.tup.injEq]
 | .tup xs,.non,_=>by simp[eqD]| .tup xs,.bl _,_=>by simp[eqD]| .tup xs,.int _,_=>by simp[eqD]| .tup xs,.str _,_=>by simp[eqD]| .tup xs,.lst,_=>by simp[eqD]| .tup xs,.dct,_=>by simp[eqD]| .bl _,_,h=>by simp[nD] at h| .lst,_,h=>by simp[nD] at h| .dct,_,h=>by simp[nD] at h
theorem eqXL_iff:∀{xs ys:oj D},nL xs=v_->(eqL xs ys=v_↔xs=ys)
 | [],[],_=>by simp[eqL]| [],_::_,_=>by simp[eqL]|_::_,[],_=>by simp[eqL]|x::r,y::q,h=>by
  let h':nD x=v_/\nL r=true:=by simpa [nL] using h
  simp![eqL,uB,BN h'.1,eqXL_iff h'.2,U2]
end
mutual
theorem Is.detN {H:Hp}:∀{d e:D}{v:V},nD d=v_->nD e=v_->Is H d v->Is H e v->d=e
 | .non,e,v,_,he,h1,h2=>by
  rw[show v= .non from h1,0]
  cases e with
  |non=>rfl|str b=>obtain⟨q,_⟩:=(show V.non=V.str b/\_ from h2);rw[q,0]|int b=>rw[show V.non=V.int b from h2,0]|tup ys=>erw[h2,p,us,q,_];rw[q,0]|_=>simp[nD] at he
 | .str a,e,v,_,he,h1,h2=>by
  obtain⟨rfl,_⟩:=(show v= .str a/\_ from h1)
  cases e with
  |non=>rw[show V.str a=V.non from h2,0]|str b=>obtain⟨q,_⟩:=(show V.str a=V.str b/\_ from h2);rw[q,0];rfl|int b=>rw[show V.str a=V.int b from h2,0]|tup ys=>erw[h2,p,us,q,_];rw[q,0]|_=>simp[nD] at he
 | .int a,e,v,_,he,h1,h2=>by
  rw[show v= .int a from h1,0]
  cases e with
  |non=>rw[show V.int a=V.non from h2,0]|str b=>obtain⟨q,_⟩:=(show V.int a=V.str b/\_ from h2);rw[q,0]|int b=>rw[show V.int a=V.int b from h2,0];rfl|tup ys=>erw[h2,p,us,q,_];rw[q,0]|_=>simp[nD] at he
 | .tup xs,e,v,hd,he,h1,h2=>by
  erw[id h1,p,vs,rfl,hp,hl];cases e with
  |non=>rw[show V.ref p=V.non from h2,0]|str b=>obtain⟨q,_⟩:=(show V.ref p=V.str b/\_ from h2);rw[q,0]|int b=>rw[show V.ref p=V.int b from h2,0]|tup ys=>
   erw[h2,p',us,q,O,U];rw[q,0];rw[hp,0] at O;rw[IsL.detN (by simpa [nD] using hd) (by simpa [nD] using he) hl U]
  |_=>simp[nD] at he
 | .bl _,_,_,hd,_,_,_=>by simp[nD] at hd| .lst,_,_,hd,_,_,_=>by simp[nD] at hd| .dct,_,_,hd,_,_,_=>by simp[nD] at hd
theorem IsL.detN {H:Hp}:∀{xs ys:oj D}{vs:oj V},nL xs=v_->nL ys=v_->IsL H xs vs->IsL H ys vs->xs=ys
 | [],[],_,_,_,_,_=>rfl| [],_::_,_,_,_,h1,h2=>by
  rw[show _= [] from h1,0]
  erw[h2,v,r,q,_];rw[q,0]
 |_::_,[],_,_,_,h1,h2=>by
  rw[show _= [] from h2,0]
  erw[h1,v,r,q,_];rw[q,0]
 |x::xs,y::ys,_,hd,he,h1,h2=>by
  erw[h1,v,r,rfl,a1,a2];erw[h2,v',r',q,b1,b2];rw[q,0];let O:nD x=v_/\nL xs=true:=by simpa [nL] using hd
  let U:nD y=v_/\nL ys=true:=by simpa [nL] using he
  rw[Is.detN O.1 U.1 a1 b1,IsL.detN O.2 U.2 a2 b2]
end
def qai:∀(xs ys:oj D),eqL xs ys=((VN (min ↑xs ↑ys)).all (λj=>eqD (xs.getD j .non) (ys.getD j .non))&&↑xs==↑ys)
 | [],[]=>by simp[eqL]| [],_::_=>by simp[eqL]|_::_,[]=>by simp[eqL]|x::r,y::q=>by
  let O:=qai r q;rw[uw,uw,show min (↑r+1) (↑q+1)=min ↑r ↑q+1 by omega,Ra,vK,US]
  let e:(VN (min ↑r ↑q)).all ((λj=>eqD ((x::r).getD j .non) ((y::q).getD j .non))∘Pf)=(VN (min ↑r ↑q)).all λj=>eqD (r.getD j .non) (q.getD j .non):=by congr 1
  rw[e];let e2:(↑r+1==↑q+1)=(↑r==↑q):=by rw[vF];simp
  rw[e2,Bool.and_assoc,<-O]
  rfl
nonrec abbrev Agh:oj D->oj D->Bool:=eqL
def qaF {xs ys:oj D}(h:nL xs=v_):Agh xs ys=v_↔xs=ys:=eqXL_iff h
mutual
noncomputable def puD:D->Bool
 | .str _=>v_| .int _=>v_| .tup xs=>puL xs|_=>Vt
noncomputable def puL:oj D->Bool
 | []=>v_|x::r=>puD x&&puL r
end
mutual
theorem MT:∀{d:D},puD d=v_->nD d=v_
 | .str _,_=>rfl| .int _,_=>rfl| .tup xs,h=>puL_n (xs:=xs) h| .non,_=>rfl
theorem puL_n:∀{xs:oj D},puL xs=v_->nL xs=v_
 | [],_=>rfl|x::r,h=>by
  let h':puD x=v_/\puL r=true:=by simpa [puL] using h
  simp![nL,MT h'.1,puL_n h'.2,V1]
end
variable {e:D}
def AbO {d:D}(h:puD d=v_):eqD d e=v_↔d=e:=BN (MT h)
section
variable {X:Cx}{oq:#[16]}{σ:St}{H:Hp}{s:o7}
variable {A:oh}
def AH (I:#[I]){u:V}{b:o6}(U:nD e=v_)(h2:Is H e u)(O:ii u b)(hu:A.units<VI):Gm A s .none b (eqD .non e):=by
 cases e with
 |non=>
  rw[show u= .non from h2,0]
  rw[O,0];exact tM _
 |str y=>
  obtain⟨rfl,_⟩:=(show u= .str y/\_ from h2)
  erw[O,t2,rfl,<-pT _ _]
 |int y=>
  rw[show u= .int y from h2,0]
  erw[O,t2,rfl,<-R1 _ _]
 |tup ys=>
  erw[id h2,p,us,rfl,hp,hl];rw[O,0];erw[I.tuple (.inl (.of hp)),its,_,q,_,<-oB q hu]
 |_=>simp[nD] at U
variable {z:Str}
def Lz (I:#[I]){t:Tok}{u:V}{b:o6}(U:nD e=v_)(h2:Is H e u)(O:ii u b)(hu:A.units<VI):Gm A s (.str z t) b (eqD (!z) e):=by
 cases e with
 |non=>
  rw[show u= .non from h2,0]
  rw[O,0];exact RK _ _
 |str y=>
  obtain⟨rfl,_⟩:=(show u= .str y/\_ from h2)
  erw[O,t2,rfl,<-FQ _ _ _ _]
 |int y=>
  rw[show u= .int y from h2,0]
  erw[O,t2,rfl,<-Fp _ _ _ _]
 |tup ys=>
  erw[id h2,p,us,rfl,hp,hl];rw[O,0];erw[I.tuple (.inl (.of hp)),its,_,q,_,<-oK _ _ q hu]
 |_=>simp[nD] at U
def AI (I:#[I]){z:Int}{t:Tok}{u:V}{b:o6}(U:nD e=v_)(h2:Is H e u)(O:ii u b)(hu:A.units<VI):Gm A s (.int z t) b (eqD (.int z) e):=by
 cases e with
 |non=>
  rw[show u= .non from h2,0]
  rw[O,0];exact R_ _ _
 |str y=>
  obtain⟨rfl,_⟩:=(show u= .str y/\_ from h2)
  erw[O,t2,rfl,<-FB _ _ _ _]
 |int y=>
  rw[show u= .int y from h2,0]
  erw[O,t2,rfl,<-rW _ _ _ _]
 |tup ys=>
  erw[id h2,p,us,rfl,hp,hl];rw[O,0];erw[I.tuple (.inl (.of hp)),its,_,q,_,<-O3 _ _ q hu]
 |_=>simp[nD] at U
def EQ {xs ys:oj D}{vs us:oj V}{its its':oj o6}{A:oh}(hd:nL xs=v_)(he:nL ys=v_)(hl:IsL H xs vs)(O:IsL H ys us)(rv:im vs its)(U:im us its')
  (ih:∀x>xs,∀(e:D) (v u:V) (a b:o6),nD x=v_->nD e=v_->Is H x v->Is H e u->ii v a->ii u b->Gm A s a b (eqD x e)):
  ∀j (a1:j<its.toArray.size) (a2:j<its'.toArray.size),Gm A s its.toArray[j] its'.toArray[j] (eqD (xs.getD j .non) (ys.getD j .non)):=λj a1 a2=>by
 let l1:↑its=↑xs:=by rw[<-↑rv,↑hl]
 let l2:↑its'=↑ys:=by rw[<-↑U,↑O]
 let j1:j<↑xs:=by rw[<-l1];simpa using a1
 let j2:j<↑ys:=by rw[<-l2];simpa using a2
 obtain⟨v1,e1,i1⟩:=hl.get (i:=j) (d:=xs[j]) (by simp[j1])
 obtain⟨v2,e2,i2⟩:=O.get (i:=j) (d:=ys[j]) (by simp[j2])
 erw[rv.get e1,b1,f1,g1];erw[U.get e2,b2,f2,g2];let k1:its.toArray[j]=b1:=by
  have:=f1;rw[um (by rwa[l1])] at this
  simpa using this
 let k2:its'.toArray[j]=b2:=by
  have:=f2;rw[um (by rwa[l2])] at this
  simpa using this
 let d1:xs.getD j .non=xs[j]:=by simp[Hw,j1]
 let d2:ys.getD j .non=ys[j]:=by simp[Hw,j2]
 rw[k1,k2,d1,d2];exact ih _ (v9 j1) _ _ _ _ _ (IA (j:=j) hd (by simp[j1])) (IA (j:=j) he (by simp[j2])) i1 i2 g1 g2
def Ly (I:#[I]){xs:oj D}{e:D}{v u:V}{a b:o6}{A:oh}(hd:nD (¬xs)=v_)(he:nD e=v_)(h1:Is H (¬xs) v)(h2:Is H e u)(r1:ii v a)(O:ii u b)(hu:A.units<VI)
  (ih:∀x>xs,∀(e:D) (v u:V) (a b:o6),nD x=v_->nD e=v_->Is H x v->Is H e u->ii v a->ii u b->Gm A.in1 s a b (eqD x e)):Gm A s a b (eqD (¬xs) e):=by
 erw[id h1,p,vs,rfl,hp,hl];rw[r1,0];erw[I.tuple (.inl (.of hp)),its,rv,q,_];cases e with
 |non=>
  rw[show u= .non from h2,0]
  rw[O,0];exact oY q hu
 |str y=>
  obtain⟨rfl,_⟩:=(show u= .str y/\_ from h2)
  erw[O,t2,rfl,<-O0 _ _ q hu]
 |int y=>
  rw[show u= .int y from h2,0]
  erw[O,t2,rfl,<-oU _ _ q hu]
 |tup ys=>
  by_cases hv:V.ref p=u
  .have:=Is.detN (e:=¬ys) hd he h1 (hv▸h2);subst hv;rw[O,0];rw[<-this,(BN hd).mpr rfl];exact tM _
  .erw[id h2,p',us,rfl,ac,U];rw[O,0];erw[I.tuple (.inl (.of ac)),its',aa,q',_];let l1:↑its=↑xs:=by rw[<-↑rv,↑hl]
   let l2:↑its'=↑ys:=by rw[<-↑aa,↑U]
   let ad:=Pj (e:=λj=>eqD (xs.getD j .non) (ys.getD j .non)) q q' hu (EQ (by simpa [nD] using hd) (by simpa [nD] using he) hl U rv aa ih)
   let e1:eqD (¬xs) (¬ys)=((VN (min its.toArray.size its'.toArray.size)).all (λj=>eqD (xs.getD j .non) (ys.getD j .non))&&its.toArray.size==its'.toArray.size):=by
    rw[uz,uz,l1,l2,<-qai];simp![eqD]
   rw[e1];exact oO (λz=>hv (by rw[z])) ad
 |_=>simp[nD] at he
def Sm (I:#[I]):∀(n:Nat) (d e:D) (v u:V) (a b:o6) (A:oh),dp d<=n->nD d=v_->nD e=v_->Is H d v->Is H e u->ii v a->ii u b->A.units+n<VI->Gm A s a b (eqD d e):=by
 intro n
 induction n with
 |zero=>
  intro d e v u a b A hn hd U h1 h2 r1 r2 hu;cases d with
  |non=>
   rw[show v= .non from h1,0]
   rw[r1,0];exact AH I U h2 r2 hu
  |int z=>
   rw[show v= .int z from h1,0]
   erw[r1,t,rfl,<-AI I U h2 r2 hu]
  |str z=>simp[dp] at hn|tup xs=>simp[dp] at hn|_=>simp[nD] at hd
 |succ n ih=>
  intro d e v u a b A hn hd U h1 h2 r1 r2 hu;let O:A.units<cLine:=UI (Fo _ _) hu;cases d with
  |non=>
   rw[show v= .non from h1,0]
   rw[r1,0];exact AH I U h2 r2 O
  |int z=>
   rw[show v= .int z from h1,0]
   erw[r1,t,rfl,<-AI I U h2 r2 O]
  |str z=>
   obtain⟨rfl,_⟩:=(show v= .str z/\_ from h1)
   erw[r1,t,rfl,<-Lz I U h2 r2 O]
  |tup xs=>
   let hm:dpL xs<=n:=by
    have:dp (¬xs)=1+dpL xs:=by simp![dp]
    omega
   exact Ly I hd U h1 h2 r1 r2 O λx hx e v u a b k1 k2 k3 k4 k5 k6=>ih x e v u a b A.in1 ((AJ xs).mp hm x hx) k1 k2 k3 k4 k5 k6 (by rw[vb];omega)
  |_=>simp[nD] at hd
def Ad1 (I:#[I])(n:Nat)(d e:D)(v u:V)(a b:o6)(A:oh)(hn:dp d<=n)(hd:puD d=v_)(O:puD e=v_)(h1:Is H d v)(h2:Is H e u)(U:ii v a)(r2:ii u b)(hu:A.units+n<VI):Gm A s a b (eqD d e):=Sm I n d e v u a b A hn (MT hd) (MT O) h1 h2 U r2 hu
end
section
variable {X:Cx}
abbrev trD:D->Bool
 | .str _=>v_| .tup xs=>puL xs|_=>Vt
def Acw {d:D}(h:trD d=v_):puD d=true:=by
 cases d<;>simp_all [trD,puD]
variable {oq:#[16]}{σ:St}{H:Hp}{s:o7}{A:oh}{ds:oj D}{y:V}{u:o6}
def Ae9 (I:#[I]){es:oj D}{x:V}{v:o6}(h1:Is H (¬ds) x)(h2:Is H (¬es) y)(hn:nL ds=v_)(aa:nL es=v_)(hd:dpL ds<=60)(rx:ii x v)(ry:ii y u)(hu:A.units+64<VI):
  pq A s v u (eqL ds es)/\Rm A s v u (!(eqL) ds es):=by
 erw[id h1,p,vs,rfl,hp,hl];erw[id h2,p',us,rfl,ac,O];rw[rx,0];rw[ry,0];erw[I.tuple (.inl (.of hp)),its,rv,q,_];erw[I.tuple (.inl (.of ac)),its',U,q',_];let l1:↑its=↑ds:=by rw[<-↑rv,↑hl]
 let l2:↑its'=↑es:=by rw[<-↑U,↑O]
 let pe:=EQ (A:=A.in1) hn aa hl O rv U λx hx e v u a b k1 k2 k3 k4 k5 k6=>Sm I 60 x e v u a b A.in1 ((AJ ds).mp hd x hx) k1 k2 k3 k4 k5 k6 (by rw[vb];omega)
 let e1:=Pj (e:=λj=>eqD (ds.getD j .non) (es.getD j .non)) q q' () pe
 let e2:=O1 (e:=λj=>eqD (ds.getD j .non) (es.getD j .non)) q q' () pe
 rw[uz,uz,l1,l2,<-qai] at e1 e2;exact[e1:e2]
def Af6 (I:#[I]){d:D}{x:V}{v:o6}(h1:Is H d x)(h2:Is H e y)(p1:trD d=v_)(p2:trD e=v_)(hn:dp d<=60)(rx:ii x v)(U:ii y u)(hu:A.units+64<VI):
  pq A s v u (eqD d e)/\Rm A s v u (!(eqD) d e):=by
 let O:A.units<cLine:=by omega
 cases d with
 |str z=>
  obtain⟨rfl,_⟩:=(show x= .str z/\_ from h1)
  erw[rx,t,rfl];cases e with
  |str w=>
   obtain⟨rfl,_⟩:=(show y= .str w/\_ from h2)
   erw[U,t2,rfl,<-[oP _ _ _ _:oC _ _ _ _]]
  |tup ys=>
   erw[id h2,p,us,rfl,hp,hl];rw[U,0];erw[I.tuple (.inl (.of hp)),its,_,q,_,<-[o_ _ _ q O:O9 _ _ q O]]
  |_=>simp[trD] at p2
 |tup xs=>
  erw[id h1,p,vs,rfl,hp,hl];rw[rx,0];erw[I.tuple (.inl (.of hp)),its,rv,q,_];cases e with
  |str w=>
   obtain⟨rfl,_⟩:=(show y= .str w/\_ from h2)
   erw[U,t2,rfl,<-[oz _ _ q O:ou _ _ q O]]
  |tup ys=>
   erw[id h2,p',us,rfl,ac,ad];rw[U,0];let hm:dpL xs<=60:=by
    have:dp (¬xs)=1+dpL xs:=by simp![dp]
    omega
   let aa:=Ae9 I h1 h2 (puL_n (by simpa [trD] using p1)) (puL_n (by simpa [trD] using p2)) hm (v:=-p) (u:=-p') rfl rfl hu
   rw[show eqD (¬xs) (¬ys)=eqL xs ys by simp![eqD]]
   exact aa
  |_=>simp[trD] at p2
 |_=>simp[trD] at p1
inductive Ac9 (g:Bool->Bool)(x:V)(y:V)(H:Hp)(Q:VK):Prop
 |mk (d e:D)(_:Is H d x)(_:Is H e y)(_:trD d=v_)(_:trD e=v_)(_:dp d<=60)(_:Q (.bl (g (eqD d e))) H)
def E2 (O:X.A.units+64<VI):OpR X (VM .Eq) (Ac9 id):=by
 rw[2,x,y,v,u,Q,I,U,ry,h];erw[h,d,e,h1,h2,p1,p2,hn,q,<-(Af6 I h1 h2 p1 p2 hn U ry O).1 X.prog X.w X.xe _ (.bl _,H,I,1,q)]
def Ado (O:X.A.units+64<VI):OpR X (VM .NotEq) (Ac9 not):=by
 rw[2,x,y,v,u,Q,I,U,ry,h];erw[h,d,e,h1,h2,p1,p2,hn,q,<-(Af6 I h1 h2 p1 p2 hn U ry O).2 X.prog X.w X.xe _ (.bl _,H,I,1,q)]
end
variable {X:Cx}
def JS:yT X (.builtin "len") (λxs H Q=>(∃z:Str,xs= [!z]/\↑z<=Vw/\Q (.int ↑z) H)\/∃p ys,xs= [-p]/\(SqL X.K H p ys\/SqT X.K H p ys)/\(↑ys<=Vw->Q (.int ↑ys) H)):=by
 rw[2,xs,us,Q,I,r,h];rcases h with⟨z,e,hz,q⟩|h
 .exact qaE oq s σ H xs us Q I r (_,↑z,e,[hz:1],q)
 .exact LY oq s σ H xs us Q I r h
abbrev AfA (K:o0)(n:Nat)(t:TGs):TG:=λv σ H Q=>∃a xs,v= .ref a/\SqL K H a xs/\↑xs=n/\t xs σ H Q
def AaJ {X:Cx}{es:oj Expr}{k:Nat}{t:TGs}{n:Nat}{pos:Pos}(hc:X.calm=v_)(h:PGs X es t)
  (hn:↑(GF es X.env)=n) (O:(GF es X.env).findIdx? (·.1)=U_):PG X (.Tuple es k pos) (AfA X.K n t):=by
 rw[2,v,u,Q,I,r,U];erw[U,a,xs,e1,hq,hl,U];subst e1;rw[r,0];erw[I.list hq,its,rv,ht,hz];rw[assign_Tuple];refine A8 (Tn ?_);unfold unpack;rw[O,hn,<-hl,show ↑xs=its.toArray.size by simp[rv.length]]
 refine A8 (VX (PySem.W.kun_itemsOf (I.ok.hd hc) ht.isList λh' hx=>?_));let I1:Inv X oq σ H {s with heap:=h'}:=I.kept (t':=s.toks) λb o e=>hx b o (uM (uD e)) e
 exact h oq _ σ H xs _ Q I1 (by simpa using rv) U
variable {w:og}{K:o0}{mg:Str->om o6}{A:oh}
def zO {P:o9}{base:o8}{N:oj Str}{qual:Str}{scope:VV}{f:o3}{cd:o6}{outer:oj Env}{s₀:o7}{H₀:Hp}{E:XK}:
  zf (CX1 P w) (cxOf (CX1 P w) P w K mg base N qual scope f cd A outer s₀ H₀ E) E:=by
 intro oq σ H s e s' I h;erw[h,ea,C,a0,H',B,rfl,au,ae,htk,aw,al,am,hold,hE];show Vu (VC P w) (A.deeper (#[13])) (rp (#[13]) (-ea)) (λ_ af=>CX1 P w outer H₀ s₀ E (-ea) af) (λe' af=>CX1 P w outer H₀ s₀ E e' af) _;let ax:(A.deeper (#[13])).frames=u_ (#[13]::outer):=I.ok.frames;let ag:frs (#[13]::outer)=#[0,s₀]::frs outer:=rfl;let O:Un (frs outer) [] H₀ H s₀.heap s.heap:=I.base;let U:Un (frs (#[13]::outer)) [] H H' s.heap s'.heap:=aw;let aa:FA B (#[13]::outer) ea (-C) a0 s'.heap:=am;let ac:∀b o,s.heap.get? b=u_ o->b∉frs (#[13]::outer)->∃o',B.get? b=u_ o':=hold;let ay:=aa.2.2.1;let ad:∀b o,s₀.heap.get? b=u_ o->b∉frs outer->b∉frs (#[13]::outer):=λb o e hb hm=>by
  rw[ag] at hm;rcases Ab.mp hm with rfl|hm
  .exact A9 (uD e) (vC _)
  .exact hb hm
 let nd:∀b>frs outer,∀o,s'.heap.get? b=u_ o->∀vs,o.data≠ .fields vs:=λb hb o e=>by
  obtain⟨_,o',e',hn⟩:=ay.mem (show b>(#[13]::outer).filterMap (·.frame) from by rw[show(#[13]::outer).filterMap (·.frame)=frs (#[13]::outer) from rfl,ag];exact ui _ hb)
  rw[e] at e';rw[e',0];exact hn
 refine wpAny_leaves_onW (base:=B) (L:=#[0,s₀]) ax rfl aa λaA ah ao=>?_;let aB:∀b o o',B.get? b=u_ o'->s'.heap.get? b=u_ o->aA.get? b=u_ o:=λb o o' e1 e2=>by
  have:=aa.1 b o' e1;rw[e2,0] at this;exact ah.1 b o e1
 rw[_,ea,C,a0,H',B,1,au.trans I.os,ae,htk,(?_,?_,?_,?_,?_,?_,?_),al,ah,?_,hE]
 .intro b o e1 hn hb hx;let e2:=O.keep b o e1 hn hb hx;let ak:=O.free b o e1 hn hx;let ap:=ad b o e1 hb;let e3:=U.keep b o e2 ak ap hx;erw[ac b o e2 ap,o',e4,<-aB b o o' e4 e3]
 .intro b o e1 hn hb hx;erw[O.slot b o e1 hn hb hx,sl,e2];let ak:=O.free b o e1 hn hx;obtain⟨aC,e3⟩:=U.slot b _ e2 ak (by rw[ag];exact ui _ hb) hx
  erw[ao b _ e3 (nd b hb _ e3),aq,e4,<-[aq:e4]]
 .intro b o e1 hn hx;erw[O.there b o e1 hx,o',e2,<-U.free b o' e2 (O.free b o e1 hn hx) hx]
 .intro b o e1 hx;erw[O.there b o e1 hx,o',e2];by_cases hb:b>frs outer
  .erw[U.there b o' e2 hx,o2,e3];erw[ao b _ e3 (nd b hb _ e3),aq,e4,<-[_:e4]]
  .erw[ac b o' e2 (ad b o e1 hb),o2,e3,<-[o2:ah.1 b o2 e3]]
 .exact λb xs e=>U.tups b xs (O.tups b xs e)
 .exact λb o u e=>U.frzs b o u (O.frzs b o u e)
 .intro b ps e;erw[O.tbls b ps e,m1,e1];erw[U.tbls b _ e1,m2,e2,<-⟨m1++m2,by rwa[<-T_]⟩]
 .intro b o e1 hb;obtain⟨o',e2⟩:=O.there b o e1 (by simp)
  exact ac b o' e2 (ad b o e1 hb)
def Dw:zf (CX1 X.prog X.w) X E0:=λ_ _ _ _ _ _ _ h=>by
 erw[h,_,_,_,_,_,_,_,_,_,_,_,_,_,z,<-V_ z]
end L2
namespace L2
open PySem PyProof.Rows
variable {H:Hp}{p:o3}
def Tk.updD {xs ys:oj (Key×V)}(h:H p=u_ (.dK xs)):Tk H (upd H p (.dK ys)):=by
 rw[_,λb zs e=>?_,λb zs e=>[zs:?_],λb zs e=>?_]
 .rw[qk (λz=>by rw[z,h,0] at e)];exact e
 .rw[qk (λz=>by rw[z,h,0] at e)];exact e
 .by_cases z:b=p
  .exact⟨ys,by rw[z];exact qg⟩
  .exact⟨zs,by rwa[qk z]⟩
variable {C dx:o3}
def Tk.updI {O dx':o3}{xs ys:oj (Str×V)}(h:H p=u_ (.ins C dx xs)):Tk H (upd H p (.ins O dx' ys)):=
 ⟨λb zs e=>by rw[qk (λz=>by rw[z,h,0] at e)];exact e,λb zs e=>⟨zs,by rw[qk (λz=>by rw[z,h,0] at e)];exact e⟩,λb zs e=>⟨zs,by rw[qk (λz=>by rw[z,h,0] at e)];exact e⟩⟩
section
variable {X:Cx}
inductive Aay (x:V)(vs:List V)(H:Hp)(Q:VK):Prop
 |mk (z y:Str)(_:x= !z)(_:vs= [!y])(_:Q (.bl (VS z y)) H)
def ID:MtM X "str.startswith" Aay:=by
 rw[2,x,vs,v,us,Q,I,O,rv,h];erw[h,z,y,rfl,rfl,q];erw[O,t,rfl];erw[rv.one,u,rfl,t',rfl,<-SC.startswith (.bl (VS z y),H,I,1,q)]
end
def IN {d A:o3}{o:Obj}{H1:Hp}{tc:TT}{te:TE}{tl:St}{Q:VK}{kvs:oj (Key×V)}{ls:oj Str}(p:Str->Bool)(f:Str->V)(hd:H1 d=u_ (.frz o (.dK kvs)))(hk:kvs.map (·.1)=ls.map Vx)(hn:↑ls<=Vw)(hA:H1 A=U_)
  (U:∀z H (R:Bool->Hp->Prop),z>ls->ie H1 H->R (p z) H->tc (u_ (!z)::tl) H R)
  (aa:∀z H (R:VK),z>ls->ie H1 H->R (f z) H->te (u_ (!z)::tl) H R)
  (hQ:∀H',ie H1 H'->H' A=u_ (.lst ((ls.filter p).map f))->Q (-A) H'):Mg A (Itd d o) (jG 0) tc te (U_::tl) H1 Q:=by
 let ad:↑kvs=↑ls:=by
  have:=Aa Gi hk
  simpa using this
 rw[_,↑ls,λi σ ys H=>(∃w,σ=w::tl)/\ys=((ls.take i).filter p).map f/\ie H1 H,hn,[[U_:1]:1:qf hA _],?_,?_]
 .rintro i σ ys H hi ⟨⟨w,rfl⟩,rfl,sm⟩ O hy;rw[_,[kvs:sm _ _ hd:()]]
  rintro x H' ⟨rfl,hx⟩;let e:=hx kvs (sm _ _ hd);let e2:(kvs.map λp=>kV p.1)[i]? =u_ (V.str ls[i]):=by
   have:(kvs.map λp=>kV p.1)=(kvs.map (·.1)).map kV:=by rw[uR];rfl
   rw[this,hk,uR,uG,um hi]
   rfl
  rw[e2,0] at e;let et:ls.take (i+1)=ls.take i++ [ls[i]]:=by rw[vk,um hi];rfl
  let ac:∀ys,ie H1 (upd H' A (.lst ys)):=λys b o' e=>by
   rw[qk (qi e hA)];exact sm _ _ e
  dsimp![jG,HQ];refine U ls[i] H' _ (v9 hi) sm ?_;cases hp:p ls[i] with
  |true=>
   refine lG (aa ls[i] H' _ (v9 hi) sm (O,⟨0⟩,?_,ac _));rw[et,UL,uA];simp[hp]
  |false=>
   refine iX (O,⟨0⟩,?_,sm);rw[et,UL,uA];simp[hp]
 .rintro σ ys H ⟨_,rfl,sm⟩ O;rw[vN] at O;exact[[kvs:sm _ _ hd:()]:hQ H sm O]
def Abx {K:o0}{a A:o3}{H1:Hp}{te:TE}{tl:St}{Q:VK}{ls:oj Str}(C:Nat->oj V->Hp->Prop)(ha:H1 a=u_ (.lst (ls.map V.str)))(hn:↑ls<=Vw)(hA:H1 A=U_)(h0:C 0 [] (upd H1 A (.lst [])))
  (aa:∀i z ys H,ls[i]? =u_ z->C i ys H->H A=u_ (.lst ys)->H a=u_ (.lst (ls.map V.str))->↑ys<=i->∀R:VK,(∀y H4,H4 A=u_ (.lst ys)->H4 a=u_ (.lst (ls.map V.str))->C (i+1) (ys++ [y]) (upd H4 A (.lst (ys++ [y])))->R y H4)->te (u_ (!z)::tl) H R)
  (hQ:∀ys H,C ↑ls ys H->H A=u_ (.lst ys)->Q (-A) H):Mg A (Itl K a) (jG 0) Di te (U_::tl) H1 Q:=by
 let U:a≠A:=qi ha hA;refine(↑ls,λi σ ys H=>(∃w,σ=w::tl)/\C i ys H/\H a=u_ (.lst (ls.map V.str)),hn,⟨[U_:1],h0,by rwa[qk U]⟩,?_,?_)
 .rintro i σ ys H hi ⟨⟨w,rfl⟩,hc,hl⟩ O hy;let e0:(ls.map V.str)[i]? =u_ (V.str ls[i]):=by rw[uG,um hi];rfl
  rw[_,(_,_,SqL.of hl,e0)];rintro x H' ⟨rfl,hx⟩;let e:=hx _ (SqL.of hl);rw[e0,0] at e;dsimp![jG,Di,HQ];rw[A6 rfl];exact aa i ls[i] ys H' (um hi) hc O hl hy _ λy H4 h4 h5 c4=>(h4,⟨0⟩,c4,by rwa[qk U])
 .rintro σ ys H ⟨_,hc,hl⟩ O;exact⟨⟨_,SqL.of hl,by simp⟩,hQ ys H hc O⟩
section
variable {X:Cx}{K:o0}{o e:Expr}{es:oj Expr}{to:TE}{t:TA}{name:Str}{apos cpos:Pos}{T id:String}{r:V->oj V->Hp->VK->Prop}
def Adm (hK:X.K=K)(pa:Fw T)(slot:Slot T name id)(ad:Hy (.builtin id)=pure (.type "method_descriptor"))(hm:MtR X id r)(ho:PE X o to)(ha:PA X (e::es) t)
  (U:GM o name X.env (eval o X.env)=eval o X.env)
  (ac:((VL cpos (VA (e::es) X.env)).all (λx=> !(x).1)&&(He cpos (Hg [] X.env)).all (λx=>x.1.isSome)
   &&decide (↑(e::es)+↑([]:oj GV)+(if([]:oj GV).isEmpty then 0 else 1)<30))=v_)
  (aa:(apos.endLine==cpos.line)=v_) (hs:#[22]) (O:(VL cpos (VA es X.env)).any (·.1)=Vt):
  PE X (.Call (.Attribute o name apos) (e::es) [] cpos) (tBM K T r to t):=by
 subst hK;exact Jm pa slot ad hm ho ha U ac aa hs O
end
def Iv:HP (.type "list_reverseiterator") "__len__"=pure none:=by rw[To,UV];kernel_rfl
def NP:HP (.type "list_reverseiterator") "__length_hint__"=pure (u_ (.builtin "list_reverseiterator.__length_hint__")):=by rw[To,UV];kernel_rfl
section
variable {X:Cx}
def Inv.laidM {oq:#[16]}{σ:St}{H H':Hp}{s:o7}{h':o8}{t':Nat}(I:#[I])(k:∀b u,s.heap.get? b=u_ u->h'.get? b=u_ u)(sm:ie H H')
  (O:∀b o,H b=U_->H' b=u_ o->#[0,s]<=b/\QT X.prog X.w H' h' b o) (U:0<t'):Inv X oq σ H' {s with heap:=h',toks:=t'}:=by
 refine I.un (λb u q _ _ _=>k b u q,λb u q _ _ _=>[u.slots:k b u q],λb u q n _=>?_,λb u q _=>[u:k b u q],λb xs q=>sm _ _ q,λb u xs q=>sm _ _ q,λb ps q=>⟨#[],by rw[sm _ _ q];simp⟩) (λb u e=>?_) U
 .cases e:H' b with
  |none=>rfl|some o=>
   exact A9 (uD q) (Nat.not_lt.mpr (O b o n e).1)
 .cases q:H b with
  |none=>exact(O b u q e).2|some o=>
   rw[sm _ _ q,0] at e;exact(I.hok b _ q).stay (λc v _ z=>k c v z) (λc z=>sm _ _ z) λc xs z=>sm _ _ z
end
section
variable {prog:o9}{w:og}{A:oh}{E:#[14]}{s:o7}
def Mo {r:o3}{T:String}{Q:#[14]}{G:oj o6->o7->Prop}(aa:T="dict_items"\/T="list_reverseiterator")(ac:s.TypeIs (-r) T)
  (U:∀(R:oj o6->o7->Prop) (E':#[14]),(∀vs s',G vs s'->R vs s')->Vu #[w,w] A.in1.in1 (collect (-r)) R E' s)
  (hQ:∀vs s',G vs s'->↑vs<=Vw/\Q (.ref #[0,s']) {s' with heap:=s'.heap.push {cls:= .type "tuple",data:= .seq vs.toArray}}):
  Vu #[w,w] A (call (.type "tuple") [-r]) Q E s:=by
 let new:G9 #[w,w] A.in1 (.call (.builtin "tuple.__new__") ⟨[.type "tuple",-r],[]⟩) (wants (λobj O=>O.TypeIs obj "tuple"/\Q obj O) E) s:=by
  refine pC ?_;show Vu _ A.in1.in1 (do Tj "tuple.__new__" [[.type "tuple",-r]:[]];again (.builtin "tuple.__new__" [[.type "tuple",-r]:[]])) _ _ s
  refine A8 (Td (PySem.F.newCall_tuple_1 _) (uu [Vp Uy _:Vi PySem.F.entry_tuple_new ?_]));rw[V6 Uy _];let ae:=rF;let ad:=Ph;let af:=Px;rcases aa with rfl|rfl
  all_goals
   wp_walk using Gn ac,U
   intro vs s' hg;erw[hQ vs s' hg,hl,hq];show Vu _ _ (G_ vs.toArray>>=λv=>ret v) _ _ _;unfold G_;refine A8 (vq ?_ (by show vs.toArray.size<=Vw;simpa using hl))
   refine uu ?_;exact[[_:uC _ rfl:1]:hq]
 refine T4 (Q₁:=λobj O=>O.TypeIs obj "tuple"/\Q obj O) PySem.F.called_tuple (PySem.F.typeCall_tuple_1 _) PySem.F.entry_object_init new λobj O h₁=>?_;exact[h₁.1:PySem.F.args_object_init_2 obj _:Pv PySem.F.called_tuple.init.lookup PySem.F.called_tuple.made () prog w A.in1 _ O [h₁.1:1:h₁.2]]
end
abbrev Su (ps:oj (o3×oj V))(H:Hp):Hp:=ps.foldl (λh p=>upd h p.1 (.tup p.2)) H
def zA:∀(ps:oj (o3×oj V)) (H:Hp) (b:o3),b∉#[17]->Su ps H b=H b
 | [],_,_,_=>rfl|p::r,H,b,h=>by
  show Su r (upd H p.1 (.tup p.2)) b=_;rw[zA r _ b (λm=>h (ui _ m)),qk (λe=>h (by rw[e];exact uj ..))]
def L9:∀(ps:oj (o3×oj V)) (H:Hp) (p:o3×oj V),(#[17]).Nodup->p>ps->Su ps H p.1=u_ (.tup p.2)
 | [],_,_,_,h=>nomatch h|q::r,H,p,hn,h=>by
  let O:=List.nodup_cons.mp hn;show Su r (upd H q.1 (.tup q.2)) p.1=_;rcases Ab.mp h with rfl|h
  .rw[zA r _ _ O.1,qg]
  .exact L9 r _ p O.2 h
abbrev qaL (H:Hp)(kvs:oj (Key×V))(ts:oj o3):Prop:=↑ts=↑kvs/\∀(j:Nat) (t:o3) (p:Key×V),ts[j]? =u_ t->kvs[j]? =u_ p->H t=u_ (-[kV p.1,p.2])
inductive Acb (mk:List V->HO)(Q:VK)(x:V)(H1:Hp):Prop
 |mk (d:Addr)(kvs:List (Key×V))(_:x=-d)(_:Rd H1 d (.dK kvs))(_:∀(t:Addr)(ts:List Addr)(H2:Hp),ie H1 H2->H1 t=U_->H2 t=u_ (mk (ts.map V.ref))->qaL H2 kvs ts->Q (-t) H2)
abbrev AcD (mk:oj V->HO)(to:TE):TE:=λσ H Q=>to σ H λx H1=>Acb mk Q x H1
def wH {α β:Type}:∀{as:oj α}{bs:oj β},↑as=↑bs->(as.zip bs).map (·.1)=as
 | [],[],_=>rfl|a::as,b::bs,h=>by
  rw[List.zip_cons_cons,ur,wH (by simpa using h)]
def wR {α β:Type}{F:α->β->Prop}:∀{l₁:oj α}{l₂:oj β},Paired F l₁ l₂->∀{j:Nat}{a:α}{b:β},l₁[j]? =u_ a->l₂[j]? =u_ b->F a b
 |_,_,.nil,j,a,b,h,_=>by simp at h|_,_,.cons f r,0,a,b,h1,h2=>by
  rw[h1,0];rw[h2,0];exact f
 |_,_,.cons f r,j+1,a,b,h1,h2=>wR r (j:=j) (by simpa using h1) (by simpa using h2)
section
variable {X:Cx}{oq:#[16]}{σ:St}{H:Hp}{s:o7}
def DK {r t:o3}{kvs:oj (Key×V)}{vs:oj (Key×o6)}{as:oj o3}{h1 h2:o8}{tk:Nat}{o:HO}(I:#[I])(O:KV kvs vs)(k2:∀b u,s.heap.get? b=u_ u->h2.get? b=u_ u)(hl:↑as=↑vs)(hz:#[0,s]<=r)
  (hG:PySem.W.KdxG (Qc X.prog X.w) vs r h1 as) (ac:∀a>as,∀u,h1.get? a=u_ u->h2.get? a=u_ u) (ht:#[0,s]<=t) (ad:t∉as) (hu:∃u,o=u) (htk:0<tk)
  (new:∀H',ie H H'->qaL H' kvs as->QT X.prog X.w H' h2 t o):
  ∃H',Inv X oq σ H' {s with heap:=h2,toks:=tk}/\ie H H'/\H t=U_/\H' t=u_ o/\qaL H' kvs as:=by
 let hn:as.Nodup:=hG.rise.imp λh=>uM h;let hf:∀a>as,H a=none:=λa ha=>I.hok.fresh (uP hz (vB (hG.above a ha)));let aa:H t=none:=I.hok.fresh ht;let ag:↑kvs=↑vs:=↑O
 refine_lift let ps:oj (o3×oj V):=as.zip (kvs.map λp=> [kV p.1,p.2]);?_
 let ef:#[17]=as:=wH (by rw[uc];omega)
 let ae:ie H (Su ps H):=λb u e=>by
  rw[zA ps H b (by rw[ef];exact λm=>by rw[hf b m,0] at e)]
  exact e
 let sm:ie H (upd (Su ps H) t o):=λb u e=>by
  rw[qk (qi e aa)];exact ae _ _ e
 let it:qaL (upd (Su ps H) t o) kvs as:=by
  rw[_,(),λj a p h3 h4=>?_]
  let ma:=uL h3;rw[qk (λe=>ad (by rwa[<-e]))]
  refine L9 ps H (a,[kV p.1,p.2]) (by rwa[ef]) ?_
  refine uL (i:=j) ?_;show(as.zip (kvs.map λp=> [kV p.1,p.2]))[j]? =_;rw[vW];exact⟨h3,by rw[uG,h4];rfl⟩
 rw[_,upd (Su ps H) t o,I.laidM k2 sm (λb u e1 e2=>?_) htk,sm,aa,qg,it];by_cases hb:b=t
 .subst hb;rw[qg,0] at e2;exact[ht:new _ sm it]
 .rw[qk hb] at e2;let mb:b>as:=by
   refine Va λm=>?_;rw[zA ps H b (by rwa[ef]),e1] at e2
   rw[e2,0]
  rw[_,uP hz (vB (hG.above b mb))];erw[List.mem_iff_getElem?.mp mb,j,hj];erw[hG.pairs j b hj,af,kk,x,f1,f2,f3];let U:j<↑kvs:=by
   have:=(Ah.mp f1).1;omega
  let e5:=it.2 j b kvs[j] hj (um U);rw[qk hb,e2,0] at e5;let q1:kvs[j].1=kk:=by
   have:(kvs.map (·.1))[j]? =u_ kk:=by rw[O.keys,uG,f1];rfl
   rw[uG,um U] at this;exact uJ this
  let q2:ii kvs[j].2 x:=by
   exact(wR O (um U) f1).2
  refine(by show 2<=Vw;decide,[af,x],.cons (by rw[q1];exact IU f2) (.cons q2 .nil),(_,ac b mb _ f3,1,0))
def DO {o:Expr}{to:TE}{apos cpos:Pos}{R:#[14]}{Q:VK}(ho:PE X o to)(I:#[I])(O:GM o "items" X.env (eval o X.env)=eval o X.env)(U:(apos.endLine==cpos.line)=v_)
  (h:to σ H Q)
  (k:∀(s1:o7) (H1:Hp) (x:V),Inv X oq σ H1 s1->Q x H1->∃(d:o3) (kvs:oj (Key×V)),x= .ref d/\Rd H1 d (.dK kvs)/\R (.ref #[0,s1]) {s1 with heap:=s1.heap.push {cls:= .type "dict_items",data:= .fields #[-d]}}):
  Vu #[X,X] X.A (eval (.Call (.Attribute o "items" apos) [] [] cpos) X.env) R X.xe s:=by
 refine PM O U (thn (ho oq s σ H _ I h) λv s1 zq=>?_);erw[zq,x,H1,I1,r1,q];erw[k s1 H1 x I1 q,d,kvs,ex,hd,q2];subst ex;rw[r1,0];erw[zI I1.hok hd,hz,lo,vs,ac,dd];let aa:∀a,VB d= .ref a->∃ob,s1.heap.get? a=u_ ob/\ob.dict=none:=BP I1 (y:=kV (GU 0)) (.inl (kvs,GU 0,hd,1,1));exact("dict","dict.items",Uw,PySem.F.slot_dict_items,PySem.F.type_dict_items,dd.typeIs,aa,vP rfl (PySem.evalArgs_none (Vn PySem.F.slot_dict_items dd.typeIs PySem.F.entry_dict_items (PySem.F.args_dict_items_1 _) (meets_dict_items (Qc X.prog X.w) d lo) [[vs:dd]:q2])))
def Bv {x:Str}{o:Expr}{to:TE}{p pos apos cpos:Pos}(hc:X.calm=v_)(hg:Gl X x)(hm:X.mg x=U_)(hv:GH x=u_ (.type "tuple"))(ho:PE X o to)(hn:x≠"__name__")(ad:(x==("__debug__":Str))=Vt)
  (U:GM o "items" X.env (eval o X.env)=eval o X.env) (aa:(apos.endLine==cpos.line)=v_)
  (he:VA [.Call (.Attribute o "items" apos) [] [] cpos] X.env=(Vt,eval (.Call (.Attribute o "items" apos) [] [] cpos) X.env)::VA [] X.env) (ae:(VL pos (VA [] X.env)).any (·.1)=Vt):
  PE X (.Call (.Name x p) [.Call (.Attribute o "items" apos) [] [] cpos] [] pos) (AcD .tup to):=by
 rw[2,Q,I,h];refine vH (x8 I hg hm hv ?_ hn ad);refine vf ?_ he ae;rw[he];show Vu _ _ (HX ((Vt,eval (.Call (.Attribute o "items" apos) [] [] cpos) X.env)::VL pos (VA [] X.env))) _ _ s;refine vG (DO ho I U aa h ?_);rintro s1 H1 x I1 ⟨d,kvs,rfl,hd,q⟩;rw[_,d,kvs,1,hd,Ub ?_];erw[zI I1.hok hd,hz,lo,vs,ac,dd];erw[id dd,o,es,ep,ho];let af:s1.heap.DictAt (Qc X.prog X.w) d vs ep:=[o:es:ho];let O:(s1.heap.push {cls:= .type "dict_items",data:= .fields #[-d]}).IsItemsView #[0,s1] d:=(_,uC _ rfl,1,1);refine uQ (n:=1) I1.tk ?_;refine Mo (G:=λus s'=>∃(h':o8) (tk:Nat) (as:oj o3),us=as.map VB/\s'={s1 with heap:=h',toks:=tk}/\(∀b o,(s1.heap.push {cls:= .type "dict_items",data:= .fields #[-d]}).get? b=u_ o->h'.get? b=u_ o)/\↑as=↑vs/\PySem.W.KdxG (Qc X.prog X.w) vs (s1.heap.push {cls:= .type "dict_items",data:= .fields #[-d]}).objs.size h' as)
  (.inl rfl) O.typeIs (λR E' k=>PySem.W.kdx_collect (s:={s1 with heap:=s1.heap.push {cls:= .type "dict_items",data:= .fields #[-d]}}) (knd:=Qc X.prog X.w) (kvs:=vs) (ep:=ep) (A:=X.A.in1.in1) (I1.ok.hd hc) O (af.push _) (by rwa[<-↑ac]) λh' tk as k1 k2 k3=>k _ _ (h',tk,as,1,1,k1,k2,k3)) ?_
 rintro us s' ⟨h',tk,as,rfl,rfl,k1,k2,k3⟩;let al:=↑ac;refine⟨by rw[uc];omega,λhtk=>?_⟩
 let hsz:#[0,s1]<=(s1.heap.push {cls:= .type "dict_items",data:= .fields #[-d]}).objs.size:=by rw[vo];exact UO _
 let k0:∀b u,s1.heap.get? b=u_ u->h'.get? b=u_ u:=λb u e=>k1 b u (ug _ e);let ag:∀a>as,a<h'.objs.size:=λa ha=>k3.there ha;let hsz2:#[0,s1]<=h'.objs.size:=by
  have:=uD (k1 _ _ (uC s1.heap (o:={cls:= .type "dict_items",data:= .fields #[-d]}) rfl));exact vB this
 let ah:∀l:oj o3,im (l.map V.ref) (l.map VB):=by
  intro l
  induction l with
  |nil=>exact .nil|cons a r ih=>exact .cons rfl ih
 obtain⟨H2,I2,sm,tn,ak,it⟩:=DK (h2:=h'.push {cls:= .type "tuple",data:= .seq (as.map VB).toArray}) (t:=h'.objs.size) (o:= .tup (as.map V.ref)) (tk:=tk) I1 ac (λb u e=>ug _ (k0 b u e)) k2 hsz k3 (λa _ u e=>ug _ e) hsz2 (λm=>vC _ (ag _ m)) ⟨0⟩ htk (λH' _ _=>(by rw[uc];omega,as.map VB,ah as,(_,uC _ rfl,1,0)))
 exact(-h'.objs.size,H2,I2,1,q _ as H2 sm tn ak it)
end
abbrev OV:D->Bool
 | .non=>v_|d=>trD d
section
variable {X:Cx}
inductive AgG (x:V)(y:V)(H:Hp)(Q:VK):Prop
 |mk (d:D)(z:Str)(_:Is H d x)(_:y= !z)(_:↑z<=1000)(_:OV d=v_)(_:dp d<=60)(_:Q (.bl (eqD d (!z))) H)
def Adq (hu:X.A.units+64<VI):OpR X (VM .Eq) AgG:=by
 rw[2,x,y,v,u,Q,I,O,U,h];erw[h,d,z,hd,rfl,hz,hk,hp,q];cases d with
 |non=>
  rw[show x= .non from hd,0]
  exact Qn oq s σ H .non (!z) v u Q I O U ⟨1,by simpa [eqD] using q⟩
 |str a=>exact E2 hu oq s σ H x _ v u Q I O U (_,!z,hd,⟨1,by rw[uF];omega⟩,hk,1,hp,q)|tup a=>exact E2 hu oq s σ H x _ v u Q I O U (_,!z,hd,⟨1,by rw[uF];omega⟩,hk,1,hp,q)|_=>simp[OV,trD] at hk
inductive AgE (K:PySem.W.Frag)(x:V)(y:V)(H:Hp)(Q:VK):Prop
 |mk (d:D)(p:Addr)(ls:List Str)(_:Is H d x)(_:y=-p)(_:(SqL K H p (ls.map V.str)\/SqT K H p (ls.map V.str)))(_:(∀z>ls,↑z<=1000))(_:OV d=v_)(_:dp d<=60)(_:Q (.bl (ls.any λz=>eqD d (!z))) H)
def Ls (us:oj Str):(us.map V.str).all wf=true:=by
 rw[US,U9];exact λ_ _=>rfl
def OS (hu:X.A.units+64<VI):OpR X (VM .In) (AgE X.K):=by
 rw[2,x,y,v,u,Q,I,rx,ry,h];erw[h,d,p,ls,hd,rfl,O,ac,hk,hp,q];cases d with
 |non=>
  rw[show x= .non from hd,0]
  refine ya oq s σ H .non _ v u Q I rx ry (p,0,O,1,Ls _,?_);let e:inV .non (ls.map V.str)=ls.any λz=>eqD .non (!z):=by
   unfold inV;rw[tL]
   rfl
  rwa[A4 uh,e]
 |str a=>
  erw[hd,rfl,_];refine ya oq s σ H _ _ v u Q I rx ry (p,0,O,1,Ls _,?_);let e:inV (!a) (ls.map V.str)=ls.any λz=>eqD (!a) (!z):=by
   unfold inV;rw[tL];refine Aa (λf=>ls.any f) (funext λz=>?_);show(z==a)=(a==z);rw[vF,Vr,Vr];exact eq_comm
  rwa[A4 uh,e]
 |tup xs=>
  let e:(ls.any λz=>eqD (¬xs) (!z))=false:=by
   rw[rq];intro z _;simp[eqD]
  rw[e] at q;erw[hd,pa,vs,rfl,ha,hl];rw[rx,0];rw[ry,0];erw[I.tuple (.inl (.of ha)),ad,ae,af,_];let ag:X.A.units<cLine:=by omega
  let U:∀{its:oj o6},im (ls.map V.str) its->∀w>its,∀A:oh,A.units+1<VI->Gm A s w (-pa) false:=by
   intro its r w hw A hA;erw[List.mem_iff_getElem?.mp hw,j,hj];let aa:j<↑ls:=by
    have:=(Ah.mp hj).1;have:=↑r;rw[uc] at this;omega
   obtain⟨u',e1,e2⟩:=r.get (i:=j) (x:=V.str ls[j]) (by rw[uG,um aa];rfl)
   rw[hj,0] at e1;have:=Ad1 I 1 (.str ls[j]) (¬xs) (.str ls[j]) (-pa) _ (-pa) A (by simp[dp]) rfl (by simpa [OV,trD,puD] using hk) ⟨1,by have:=ac _ (v9 aa);rw[uF];omega⟩ (pa,vs,1,ha,hl) e2 rfl ()
   simpa [eqD] using this
  rcases O with O|O
  .erw[I.list O,its,r,pl,hz];refine PY (λ_=>Vt) pl.isList (λw hw=>U r w (by simpa using hw) _ ?_) (.bl _,H,I,1,?_)
   .first|omega|(rw[vb];omega)|(rw[vb,vb];omega)|(rw[vb,vb,vb];omega)
   .rw[show its.toArray.any (λ_=>Vt)=Vt by rw[pN];exact List.any_eq_false.mpr λ_ _=>uh]
    exact q
  .erw[I.tuple O,its,r,pl,hz];refine PV (λ_=>Vt) pl (λw hw=>U r w (by simpa using hw) _ ?_) (.bl _,H,I,1,?_)
   .first|omega|(rw[vb];omega)|(rw[vb,vb];omega)|(rw[vb,vb,vb];omega)
   .rw[show its.toArray.any (λ_=>Vt)=Vt by rw[pN];exact List.any_eq_false.mpr λ_ _=>uh]
    exact q
 |_=>simp[OV,trD] at hk
end
end L2
namespace L2
open PySem PySem.Spec PyProof.Rows Builtin Builtin.Str
abbrev AcJ (P:o9)(w:og)(K:o0)(mg:Str->om o6)(base:o8)(k:Nat)(tf:TE)(t:TA):TE:=λσ H Q=>tf σ H λv H1=>∃(f:o3) (fd:Vy) (ps:oj Str) (sp:Sp),v= .ref f/\
 FnOk P w K mg base CX0 k f fd ps sp/\Xh K fd ps []/\PySem.W.keepIn K (-f)=v_/\t σ H1 λvs H2=>sp vs H2 Q E0
def MY {X:Cx}{o i e:Expr}{es:oj Expr}{O pos:Pos}{tf:TE}{t:TA}{k:Nat}{P:o9}{w:og}{K:o0}{mg:Str->om o6}{base:o8}(e1:X.prog=P/\X.w=w/\X.K=K/\X.mg=mg/\X.base=base)(hf:PE X (.Subscript o i O) tf)(hr:mP k X.A)(ha:PA X (e::es) t)
  (he:#[22]) (U:(VL pos (VA es X.env)).any (·.1)=Vt):
  PE X (.Call (.Subscript o i O) (e::es) [] pos) (AcJ P w K mg base k tf t):=by
 erw[e1,rfl,rfl,rfl,rfl,rfl];rw[2,Q,I,h];show Vu _ _ (do rm pos (<-eval (.Subscript o i O) X.env) [] (VL pos (VA (e::es) X.env)) (He pos (Hg [] X.env))) _ _ s
 refine A8 (thn (hf oq s σ H _ I h) λu s1 zq=>?_);erw[zq,v,H1,I1,rv,f,fd,ps,sp,ev,F,hb,hk,q];subst ev;obtain rfl:u=VB f:=rv;refine UH (h₀:=X.base) I1.ok.mod.kin hk (thn (ha pos oq s1 σ H1 _ I1 q) λus s2 ⟨vs,H2,I2,r,q2⟩=>[I2.kIn:?_]) he U;exact Ci (ds:= []) (dvs:= []) F hr hb .nil qG I2 r (by rw[vg];exact q2)
def qaR (z y:Str)(hi O:Nat):∀(l:oj Nat) (st:Array Nat×Nat),(GK l st (h_ z y hi O)).run.fst.size<=st.fst.size+↑l
 | [],st=>Vv _|a::l,st=>by
  rw[UQ];unfold h_;split
  .refine uP (qaR z y hi O l _) ?_;simp![Rh,uw];omega
  .refine uP (qaR z y hi O l _) ?_;simp![uw];omega
def Abm (z y:Str)(n:Nat):↑(occurrences z y 0 ↑z n)<=↑z+1:=by
 rw[Pu];have:=qaR z y ↑z n (HU 0 (↑z+1-0)) (#[],0);rw[vi];refine uP this ?_;simp
abbrev spG (z y:Str):oj Str:=if(decide (↑z<↑y)||decide (g_ z<g_ y))=v_ then [z] else if(occurrences z y 0 ↑z (↑z+1)).isEmpty=v_ then [z] else partsBetween z (occurrences z y 0 ↑z (↑z+1)) ↑y
def Aao (z y:Str):↑(spG z y)<=↑z+2:=by
 unfold spG;let h:=Abm z y (↑z+1);split
 .simp
 .split
  .simp
  .simp![partsBetween,uc,List.length_zip,uw,uE,TC];omega
variable {z:Str}
def Aan {y p:Str}(h:p>spG z y):↑p<=↑z:=by
 unfold spG at h;split at h
 .rw[vv] at h;subst h;exact Vv _
 .split at h
  .rw[vv] at h;subst h;exact Vv _
  .simp![partsBetween,Af] at h;erw[h,q,_,e];rw[<-e];exact strSub_length_le _ _ _
section
variable {X:Cx}
inductive AaA (x:V)(vs:List V)(H:Hp)(Q:VK):Prop
 |mk (z:_)(y:_)(_:x= !z)(_:vs= [!y])(_:0<↑y)(_:↑z<=1000)(_:∀p,H p=U_->Q (-p) (upd H p (.lst ((spG z y).map V.str))))
def IF:MtM X "str.split" AaA:=by
 rw[2,x,vs,v,us,Q,I,rx,rv,h];erw[h,z,y,rfl,rfl,hy,hz,q];erw[rx,t,rfl];erw[rv.one,u,rfl,t',rfl];let aa:↑z<=sizeLine:=by rw[uF];omega
 let O:(↑y==0)=false:=by simp;omega
 let one:spG z y= [z]->∀(T:Nat),0<T->EP X oq σ Q (.ref #[0,s]) {s with heap:=s.heap.push {cls:= .type "list",data:= .seq [G6 z t].toArray},toks:=T}:=λe T hT=>by
  rw[e] at q;exact xq (ys:= [V.str z]) I (.cons (show ii (V.str z) _ from[t:1]) .nil) (by show 1<=Vw;decide) q
 cases h1:(decide (↑z<↑y)||decide (g_ z<g_ y)) with
 |true=>
  refine vw vM (vT _ _ _) vE (Uk _ _) (PF z y t t' h1) ?_;exact one (by unfold spG;rw[A6 h1]) s.toks I.tk
 |false=>
  cases U:(occurrences z y 0 ↑z (↑z+1)).isEmpty with
  |true=>
   refine vw vM (vT _ _ _) vE (Uk _ _) (RM z y t t' h1 O U) ?_;exact one (by unfold spG;rw[A4 (by rw[h1];decide),A6 U]) s.toks I.tk
  |false=>
   let hl:=Aao z y;let e:spG z y=partsBetween z (occurrences z y 0 ↑z (↑z+1)) ↑y:=by unfold spG;rw[A4 (by rw[h1];decide),A4 (by rw[U];decide)]
   rw[e] at q hl;refine vw vM (vT _ _ _) vE (Uk _ _) (rN z y t t' h1 O U aa (by rw[uF];omega)) ?_
   exact xq I (zd _ _) (by rw[uc,uF];omega) q
inductive Ac6 (K:PySem.W.Frag)(x:V)(vs:List V)(H:Hp)(Q:VK):Prop
 |mk (sep:Str)(p:Addr)(l:List Str)(_:x= !sep)(_:vs= [-p])(_:SqT K H p (l.map V.str))(_:(l.map (·.length)).sum+↑l*↑sep<=1000000)(_:Q (.str (VF sep l)) H)
def Nz:MtM X "str.join" (Ac6 X.K):=by
 rw[2,x,vs,v,us,Q,I,rx,rv,h];erw[h,sep,p,l,rfl,rfl,hp,hz,q];erw[rx,t,rfl];erw[rv.one,u,rfl,ru];rw[ru,0];erw[I.tuple hp,its,r,pl,hl];erw[wX r,ps,rfl,e2];let U:tooLong ((#[17]).toArray.foldl (·+ ·.length+↑sep) 0)=false:=by
  rw[e2];have:=P0 sep l;rw[this];unfold tooLong;refine ub ?_;rw[uF];omega
 refine vw F.slot_str_join (vT _ _ _) F.entry_str_join (F.args_str_join_2 _ _) (meets_str_join_tuple sep t p ps U) ⟨(let⟨o,h1,h2,n,h3⟩:=pl;(o,n,h1,h2,h3)),?_⟩;let O:(glued sep (#[17])).length<=sizeLine:=Py U
 match ps,e2,O with
 | [],e2,O=>
  subst e2;exact(O,.str _,H,I.tok _,⟨0⟩,q)
 | [a],e2,_=>
  subst e2;exact(.str _,H,I,[a.2:1],q)
 |a::b::r,e2,O=>
  subst e2;rw[_,O,.str _,H,I.tok _,⟨0⟩];rw[PU];exact q
def AcT:SlR X (λx lo hi H Q=>Af7 x lo hi H Q\/Af8 X.K x lo hi H Q):=OB.or Aap
end
end L2
namespace L2
open PySem PySem.Spec PyProof.Rows
open Builtin.Int (intBits)
section
variable {X:Cx}
inductive AgF (K:PySem.W.Frag)(w:World)(x:V)(y:V)(H:Hp)(Q:VK):Prop
 |mk (z:_)(a:_)(r:_)(_:x= !z)(_:y=-a)(_:Md K w a)(_:PySem.W.nsIn K a z=u_ r)(_:Q (.bl r.isSome) H)
def Adp:OpR X (VM .In) (AgF X.K X.w):=by
 rw[2,x,y,v,u,Q,I,U,ry,h];erw[h,z,a,r,rfl,rfl,[hs,es,n,O,hk],hn,q];erw[U,t,rfl];rw[ry,0];let hm:=PySem.W.mapOf_K (prog:=X.prog) (w:=X.w) I.kIn O hk;refine Pw (TY X.prog X.w z t) hs hm (.bl r.isSome,H,I.tok _,?_,q);rw[PySem.W.find_K O hn]
 rfl
end
end L2
namespace L2
open PySem PySem.Spec PyProof.Rows
section
variable {X:Cx}
inductive Ac8 (g:Bool->Bool)(x:V)(y:V)(H:Hp)(Q:VK):Prop
 |mk (ds es:List D)(_:Is H (¬ds) x)(_:Is H (¬es) y)(_:nL ds=v_)(_:nL es=v_)(_:dpL ds<=60)(_:Q (.bl (g (Agh ds es))) H)
def E1 (U:X.A.units+64<VI):OpR X (VM .Eq) (Ac8 id):=by
 rw[2,x,y,v,u,Q,I,rx,ry,h];erw[h,ds,es,h1,h2,hn,O,hd,q,<-(Ae9 I h1 h2 hn O hd rx ry U).1 X.prog X.w X.xe _ (.bl _,H,I,1,q)]
def AaO (U:X.A.units+64<VI):OpR X (VM .NotEq) (Ac8 not):=by
 rw[2,x,y,v,u,Q,I,rx,ry,h];erw[h,ds,es,h1,h2,hn,O,hd,q,<-(Ae9 I h1 h2 hn O hd rx ry U).2 X.prog X.w X.xe _ (.bl _,H,I,1,q)]
end
structure FF (K:o0)(mg:Str->om o6)(x:Str)(st:Stmt)(ps:oj Str)(f:o3)(fd:Vy):Prop where
 F:Fun K x x st f fd
 b:Xh K fd ps []
 m:mg x=u_ (-f)
structure FM (K:o0)(C:o3)(x q:Str)(st:Stmt)(ps:oj Str)(f:o3)(fd:Vy):Prop where
 F:Fun K x q st f fd
 b:Xh K fd ps []
 h:AeJ K C x f
abbrev FZ (K:o0)(x q:Str)(st:Stmt)(f:o3):Prop:=∃(oc kV dc pm cd ct:o6) (od an:om o3) (sl:Array (om o6)),K.lookup f=u_ (oc,od,.func (PySem.W.fnOf x q (Y1 st) (Ya st) (ql st) .none kV dc pm an cd ct),sl)/\PySem.W.codeIn K cd q=v_/\PySem.W.keepIn K (-f)=v_
abbrev FZg (K:o0)(x:Str)(st:Stmt)(f:o3):Prop:=PySem.W.nsIn K VW x=u_ (u_ (-f))/\FZ K x x st f
abbrev FZm (K:o0)(C:o3)(x q:Str)(st:Stmt)(f:o3):Prop:=PySem.W.findIn K (-C) x=u_ (u_ (-f))/\PySem.W.isFn K (-f)=v_/\FZ K x q st f
abbrev BOk (x q:Str)(st:Stmt)(ps:oj Str):Prop:=∀(kV doc pm:o6) (an:om o3) (cdv ct:o6) (us:oj o6),↑us=↑ps->GZ (PySem.W.fnOf x q (Y1 st) (Ya st) (ql st) .none kV doc pm an cdv ct) [us:[]]=pure (ps.zip us)
variable {K:o0}{h:o8}{mg:Str->om o6}{x:Str}
def Qg (X:K.In h)(G:h.Ns VW mg){st:Stmt}{f:o3}(z:FZg K x st f)(ps:oj Str)(O:BOk x x st ps):∃fd,FF K mg x st ps f fd:=by
 erw[z,a,oc,kV,dc,pm,cd,ct,od,an,sl,l,c,k];let F:=Sj (st:=st) l c k;exact(_,F,F.binds O,uO X G a)
variable {C:o3}
def yZ {q:Str}{st:Stmt}{f:o3}(z:FZm K C x q st f)(ps:oj Str)(O:BOk x q st ps):∃fd,FM K C x q st ps f fd:=by
 erw[z,a,i,oc,kV,dc,pm,cd,ct,od,an,sl,l,c,k];let F:=Sj (st:=st) l c k;exact(_,F,F.binds O,[a:i:k])
def FF.law {st:Stmt}{ps:oj Str}{f:o3}{fd:Vy}(T:FF K mg x st ps f fd){y:Str}(h:∀(kV doc pm:o6) (an:om o3) (cdv ct u:o6),GZ (PySem.W.fnOf x x (Y1 st) (Ya st) (ql st) .none kV doc pm an cdv ct) [[u]:[]]=pure [(y,u)])(s:o7)(u:o6):Hu s fd [[u]:[]] [(y,u)]:=by
 erw[T.F.ex,oc,od,kV,doc,pm,an,cdv,ct,osl,rfl,lk,O,<-.of_eq (h kV doc pm an cdv ct u)]
abbrev txt? (u:o6):om Str:=match u with
 | .str z _=>u_ z|_=>U_
abbrev TZ (K:o0)(q:o3)(l:oj Str):Prop:=∃(d:om o3) (i:Array o6) (n:Nat) (sl:Array (om o6)),K.lookup q=u_ (.type "tuple",d,.seq i n,sl)/\i.toList.map txt? =l.map u_
def Xu:∀{l:oj Str}{us:oj o6},us.map txt? =l.map u_->im (l.map V.str) us
 | [],[],_=> .nil|z::l,u::us,h=>by
  rw[ur,ur] at h;injection h with h1 h2
  cases u with
  |str y t=>
   have:y=z:=uJ h1;subst this;exact .cons [t:1] (Xu h2)
  |_=>rw[h1,0]
 | [],_::_,h=>by simp at h|_::_,[],h=>by simp at h
variable {H:Hp}{q:o3}{l:oj Str}
def TZ.sq (h:TZ K q l)(hz:↑l<=100):SqT K H q (l.map V.str):=by
 erw[h,d,its,n,sl,U,e];let O:its.size=↑l:=by rw[<-vi];simpa using Aa Gi e
 exact .inr (_,its,n,U,1,1,by rw[O];exact vB (zE ()),Xu e)
abbrev TZn (K:o0)(a:o3)(x:Str)(l:oj Str):Prop:=∃q,PySem.W.nsIn K a x=u_ (u_ (-q))/\TZ K q l
end L2
namespace L2
open PySem PyProof.Rows
variable {σ:St}{H:Hp}
def qF {t u:TS}{D:mV}(h:∀N:St->Hp->Prop,(∀O H',u D O H'->N O H')->t {D with nx:=N} σ H):nP t u D σ H:=h (u D) λ_ _ h=>h
structure SB (kd:Hr)(xs0:Array VO)(st:VQ):Prop where
 pm:(Vz st).Perm xs0
 ki:kindOf st=kd
 ok:tV st=U_
 pe:HW st= #[]
section
variable {P:o9}{w:og}{A:oh}{s:o7}{kd:Hr}{xs0:Array VO}{rk:VO->Nat}
variable {st:VQ}
def SB.sz (h:SB kd xs0 st):(Vz st).size=xs0.size:=h.pm.size_eq
def SB.arr (h:SB kd xs0 st){ys:Array VO}(O:ys.Perm (Vz st)):SB kd xs0 (setArr st ys):=(O.trans h.pm,h.ki,h.ok,h.pe)
abbrev iB (rk:VO->Nat)(xs:Array VO)(i:Nat):Nat:=(xs[i]?.map rk).getD 0
abbrev Asc (rk:VO->Nat)(xs:Array VO)(n:Nat):Prop:=∀i j,i<=j->j<n->iB rk xs i<=iB rk xs j
abbrev Dsc (rk:VO->Nat)(xs:Array VO)(n:Nat):Prop:=∀i j,i<=j->j<n->iB rk xs j<=iB rk xs i
variable {c:Nat}
def OF {xs:Array VO}{d:Nat}(O:c<xs.size)(hd:d<=c)(k:Nat):iB rk (bubble xs c d) k=if k=c-d then iB rk xs c else if c-d<k/\k<=c then iB rk xs (k-1) else iB rk xs k:=by
 unfold iB;rw[getElem?_bubble O d hd k];split
 .rfl
 .split<;>rfl
variable {i j:Nat}
def EC {xs:Array VO}(O:j<=xs.size)(k:Nat):iB rk (Gb xs i j ((j-i)/2)) k=if i<=k/\k<j then iB rk xs (i+j-1-k) else iB rk xs k:=by
 unfold iB;rw[getElem?_mirror_all O k];split<;>rfl
def jq {xs:Array VO}(O:j<=xs.size)(e:∀k,i<=k->k<j->iB rk xs k=iB rk xs (j-1))(k:Nat):iB rk (Gb xs i j ((j-i)/2)) k=iB rk xs k:=by
 rw[EC O];split
 .rw[e (i+j-1-k) () (),e k () ()]
 .rfl
abbrev Om (P:o9)(w:og)(A:oh)(s:o7)(kd:Hr)(xs0:Array VO)(rk:VO->Nat):Prop:=
 ∀x>xs0.toList,∀y>xs0.toList,∀(E:#[14]) (Q:Bool->o7->Prop),Q (decide (rk x<rk y)) s->Vu (VC P w) A (keyLt' kd x.1 y.1) Q E s
variable {E:#[14]}
def SB.at (h:SB kd xs0 st)(hi:i<xs0.size):∃x,x>xs0.toList/\(Vz st)[i]? =u_ x/\iB rk (Vz st) i=rk x:=by
 let O:i<(Vz st).size:=by rwa[h.sz]
 let e:(Vz st)[i]? =u_ (Vz st)[i]:=getElem?_pos _ i O;rw[_,(Vz st)[i],(Array.perm_iff_toList_perm.mp h.pm).mem_iff.mp (by simp),e]
 unfold iB;rw[e]
 rfl
def IH {st:VQ}{i j:Nat}{Q:om Bool->VQ->Prop}(U:Om P w A s kd xs0 rk)(O:SB kd xs0 st)(hi:i<xs0.size)(hj:j<xs0.size)
  (q:Q (u_ (decide (iB rk (Vz st) i<iB rk (Vz st) j))) st):wpS (VC P w) A E s (ltAt' i j) Q st:=by
 erw[O.at (rk:=rk) hi,x,mx,ex,rx];erw[O.at (rk:=rk) hj,y,my,ey,ry];rw[rx,ry] at q;rw[ltAt'_eq];refine VG (Hx ?_);show wpS _ _ _ _ (elem' (Vz st) i>>=λu=>elem' (Vz st) j>>=λv=>lt' u v) Q st;rw[elem'_eq,elem'_eq,ex,ey];refine VG (vX (VG (vX ?_)));rw[lt'_eq];refine VG (Hx ?_);rw[O.ki];exact VG (TN (UZ (U x mx y my _ _ [1:vX q])))
def ED {st:VQ}{n ok:Nat}{Q:Bool->VQ->Prop}(hc:Om P w A s kd xs0 rk)(hn:n<=xs0.size)(hok:ok<=n)(hB:SB kd xs0 st)(hs:Asc rk (Vz st) ok)
  (q:∀O,SB kd xs0 O->Asc rk (Vz O) n->Q v_ O):wpS (VC P w) A E s (binarySort' 0 n ok) Q st:=by
 rw[binarySort'_eq];simp![HY];refine VG (T0 (HR (I:=λk c O=>c=(U_,Gk)/\SB kd xs0 O/\Asc rk (Vz O) (min k n)) (Q:=λc O=>c=(U_,Gk)/\SB kd xs0 O/\Asc rk (Vz O) n) ?st ?en ?be) ?af)
 case af=>
  rintro c O ⟨rfl,b1,b2⟩;exact vX (q O b1 b2)
 case be=>
  rw[1,hB,λi j a b=>?_];rcases FK ok with z|z
  .rw[show i=j by omega]
   exact Vv _
  .exact hs i j a ()
 case en=>
  rintro c O ⟨b0,b1,b2⟩;rw[_,b0,b1];rw[show min (max (max ok 1) n) n=n by omega] at b2
  exact b2
 case st=>
  rintro k c O ka kn ⟨rfl,b1,b2⟩;rw[show min k n=k by omega] at b2
  let hk:k<xs0.size:=by omega
  refine VG (T0 (HR (I:=λx c u=>u=O/\∃l r,c=(U_,l,r)/\l<=r/\r<=k/\r-l<=k-x/\(∀i,i<l->iB rk (Vz O) i<=iB rk (Vz O) k)/\∀i,r<=i->i<k->iB rk (Vz O) k<iB rk (Vz O) i)
   (Q:=λc u=>u=O/\∃l r,c=(U_,l,r)/\l<=k/\(∀i,i<l->iB rk (Vz O) i<=iB rk (Vz O) k)/\∀i,l<=i->i<k->iB rk (Vz O) k<iB rk (Vz O) i) ?st2 ?en2 ?be2) ?af2)
  case be2=>exact(1,(0),k,1,uN _,Vv _,(),λi z=>A9 z (Nat.not_lt_zero _),λi z1 z2=>by omega)
  case en2=>
   rintro c u ⟨rfl,l,r,rfl,c1,c2,c3,U,c5⟩;obtain rfl:l=r:=by omega
   exact(1,l,l,1,c2,U,c5)
  case st2=>
   rintro x c u _ xk ⟨rfl,l,r,rfl,c1,c2,c3,U,c5⟩;dsimp only;by_cases full:l≥r
   .rw[A6 full];obtain rfl:l=r:=by omega
    exact vX (1,l,l,1,c2,U,c5)
   .rw[A4 full];refine VG (IH hc b1 hk () ?_)
    by_cases le:iB rk (Vz u) k<iB rk (Vz u) ((l+r)/2)
    .rw[ua le];simp![V5];refine vX (1,l,(l+r)/2,1,(),(),(),U,λi z1 z2=>?_)
     exact VP le (b2 _ _ z1 z2)
    .rw[ub le];simp![uY,Uq];refine vX (1,(l+r)/2+1,r,1,(),(),(),λi z1=>?_,c5)
     have:=b2 i ((l+r)/2) () ()
     omega
  case af2=>
   rintro c u ⟨rfl,l,r,rfl,c2,U,c5⟩;show wpS _ _ _ _ (moveDown' k l>>=λ_=>pure (Hi (U_,Gk))) _ _;rw[moveDown'_eq];refine VG (Fu (vX [1:b1.arr (bubble_perm _ _ _):?_]));rw[show min (k+1) n=k+1 by omega]
   let ks:k<(Vz u).size:=by rwa[b1.sz]
   intro i j ij jk;let e1:=OF (rk:=rk) ks (show k-l<=k by omega) i
   let e2:=OF (rk:=rk) ks (show k-l<=k by omega) j
   show iB rk (bubble (Vz u) k (k-l)) i<=iB rk (bubble (Vz u) k (k-l)) j;rw[e1,e2,show k-(k-l)=l by omega]
   let g1:∀y,y<l->iB rk (Vz u) y<=iB rk (Vz u) k:=U;let g2:∀y,l<=y->y<k->iB rk (Vz u) k<=iB rk (Vz u) y:=λy z1 z2=>vB (c5 y z1 z2);split<;>split<;>(try split)<;>(try split)<;>first
    |exact Vv _
    |(exfalso;omega)
    |exact g1 _ ()
    |exact g2 _ () ()
    |exact b2 _ _ () ()
def Ac1 {st:VQ}{a m:Nat}{Q:AscSt->VQ->Prop}(U:Om P w A s kd xs0 rk)(hm:m<=xs0.size)(ha:1<=a)(am:a<=m)(hB:SB kd xs0 st)(hs:Asc rk (Vz st) a)
  (q:∀n,a<=n->n<=m->Asc rk (Vz st) n->(n=m\/iB rk (Vz st) n<iB rk (Vz st) (n-1))->Q (U_,n) st):wpS (VC P w) A E s (ascLoop a m) Q st:=by
 unfold ascLoop;refine HR (I:=λx c u=>u=st/\c=(U_,x)/\Asc rk (Vz st) x) ?st ?en [1:1:hs]
 case en=>
  rintro c u ⟨rfl,rfl,b⟩;rw[show max a m=m by omega] at b⊢
  exact q m am (Vv _) b (.inl rfl)
 case st=>
  rintro x c u xa xm ⟨rfl,rfl,b⟩;dsimp only;refine VG (IH U hB () () ?_)
  by_cases O:iB rk (Vz u) x<iB rk (Vz u) (x-1)
  .rw[ua O];simp![V5];exact vX (q x xa () b (.inr O))
  .rw[ub O];simp![uY,Uq];refine vX [1:1:λi j ij jx=>?_];rcases Ua j x with z|z
   .exact b i j ij z
   .obtain rfl:j=x:=by omega
    rcases Ua i j with y|y
    .have:=b i (j-1) () ()
     omega
    .rw[show i=j by omega]
     exact Vv _
def EB {st:VQ}{n m:Nat}{Q:om Nat->VQ->Prop}(hc:Om P w A s kd xs0 rk)(hm:m<=xs0.size)(h1:1<=n)(nm:n<=m)(U:SB kd xs0 st)(hs:Dsc rk (Vz st) n)
  (q:∀k u,SB kd xs0 u->1<=k->k<=m->Asc rk (Vz u) k->Q (u_ k) u):wpS (VC P w) A E s (tail3 n m) Q st:=by
 unfold tail3;let hz:n<=(Vz st).size:=by rw[U.sz];omega
 let O:SB kd xs0 (setArr st (Gb (Vz st) 0 n ((n-0)/2))):=U.arr (tY _ _ _ _);refine VG (Tp (VG (Ac1 hc hm h1 nm O ?_ λk k1 k2 k3 _=>vX (q k _ O () k2 k3))))
 intro i j ij jn;let e1:=EC (rk:=rk) (i:=0) hz i;let e2:=EC (rk:=rk) (i:=0) hz j;rw[A6 ()] at e1 e2
 show iB rk (Gb (Vz st) 0 n ((n-0)/2)) i<=iB rk (Gb (Vz st) 0 n ((n-0)/2)) j;rw[e1,e2];exact hs _ _ () ()
def XW {xs:Array VO}{x:Nat}(h:Dsc rk xs x)(e:1<=x->iB rk xs x<=iB rk xs (x-1)):Dsc rk xs (x+1):=by
 intro i j ij O;rcases Ua j x with z|z
 .exact h i j ij z
 .obtain rfl:j=x:=by omega
  rcases Ua i j with y|y
  .have:=h i (j-1) () ()
   have:=e ()
   omega
  .rw[show i=j by omega]
   exact Vv _
def Aax {st:VQ}{n m:Nat}{Q:DescSt->VQ->Prop}(hc:Om P w A s kd xs0 rk)(hm:m<=xs0.size)(h1:1<=n)(nm:n<=m)(hB:SB kd xs0 st)(hs:Dsc rk (Vz st) n)
  (q:∀k e u,SB kd xs0 u->n<=k->k<=m->Dsc rk (Vz u) k->e+1<=k->(∀i,k-(e+1)<=i->i<k->iB rk (Vz u) i=iB rk (Vz u) (k-1))->Q (U_,k,e) u):wpS (VC P w) A E s (descLoop n m) Q st:=by
 unfold descLoop;let one:∀(xs:Array VO) (x i:Nat),x-(0+1)<=i->i<x->iB rk xs i=iB rk xs (x-1):=λxs x i z1 z2=>by rw[show i=x-1 by omega]
 refine HR (I:=λx c u=>∃e,c=(U_,x,e)/\SB kd xs0 u/\Dsc rk (Vz u) x/\e+1<=x/\∀i,x-(e+1)<=i->i<x->iB rk (Vz u) i=iB rk (Vz u) (x-1)) ?st ?en ((0),1,hB,hs,(),one _ _)
 case en=>
  rintro c u ⟨e,rfl,b1,b2,b3,O⟩;rw[show max n m=m by omega] at b2 b3 O⊢
  exact q m e u b1 nm (Vv _) b2 b3 O
 case st=>
  rintro x c u xa xm ⟨e,rfl,b1,b2,b3,O⟩;dsimp only;let hz:x<=(Vz u).size:=by rw[b1.sz];omega
  refine VG (IH hc b1 () () ?_)
  by_cases U:iB rk (Vz u) x<iB rk (Vz u) (x-1)
  .rw[ua U];simp![V5];by_cases pe:GT.gt e 0
   .rw[A6 pe];refine VG (Tp (vX ((0),1,b1.arr (tY _ _ _ _),?_,(),one _ _)))
    refine XW (λi j ij jx=>?_) λ_=>?_
    .show iB rk (Gb (Vz u) _ _ _) j<=iB rk (Gb (Vz u) _ _ _) i;rw[jq hz O,jq hz O];exact b2 i j ij jx
    .show iB rk (Gb (Vz u) _ _ _) x<=iB rk (Gb (Vz u) _ _ _) (x-1);rw[jq hz O,jq hz O];exact vB U
   .rw[A4 pe];exact vX ((0),1,b1,XW b2 λ_=>vB U,(),one _ _)
  .rw[ub U];simp![uY,Uq];refine VG (IH hc b1 () () ?_)
   by_cases gr:iB rk (Vz u) (x-1)<iB rk (Vz u) x
   .rw[ua gr];simp![V5];exact vX (q x e u b1 xa () b2 b3 O)
   .rw[ub gr];simp![uY,Uq];let ex:iB rk (Vz u) x=iB rk (Vz u) (x-1):=by omega
    refine vX (e+1,1,b1,XW b2 λ_=>tS ex,(),λi z1 z2=>?_)
    rw[show x+1-1=x by omega]
    rcases Ua i x with y|y
    .rw[ex];exact O i () y
    .rw[show i=x by omega]
def EE {st:VQ}{n m:Nat}{Q:om Nat->VQ->Prop}(O:Om P w A s kd xs0 rk)(hm:m<=xs0.size)(nm:n+1<=m)(hB:SB kd xs0 st)(hs:Dsc rk (Vz st) (n+1))
  (q:∀k u,SB kd xs0 u->1<=k->k<=m->Asc rk (Vz u) k->Q (u_ k) u):wpS (VC P w) A E s (descPart n m) Q st:=by
 unfold descPart;refine VG (TN (UB [1:?_]));refine VG (Aax O hm () nm hB hs λk e u b1 k1 k2 b2 b3 U=>?_)
 dsimp only;let hz:k<=(Vz u).size:=by rw[b1.sz];omega
 by_cases pe:GT.gt e 0
 .rw[A6 pe];refine VG (Tp (EB O hm () k2 (b1.arr (tY _ _ _ _)) (λi j ij jk=>?_) q))
  show iB rk (Gb (Vz u) _ _ _) j<=iB rk (Gb (Vz u) _ _ _) i;rw[jq hz U,jq hz U];exact b2 i j ij jk
 .rw[A4 pe];exact EB O hm () k2 b1 b2 q
def Ac2 {st:VQ}{m:Nat}{Q:om Nat->VQ->Prop}(hc:Om P w A s kd xs0 rk)(hm:m<=xs0.size)(h1:1<=m)(hB:SB kd xs0 st)
  (q:∀k u,SB kd xs0 u->1<=k->k<=m->Asc rk (Vz u) k->Q (u_ k) u):wpS (VC P w) A E s (countRun' 0 m) Q st:=by
 rw[countRun0_eq];refine VG (Ac1 hc hm (Vv 1) h1 hB (λi j ij jk=>by rw[show i=j by omega];exact Vv _) λn n1 n2 up aa=>?_)
 dsimp only;by_cases all:n=m
 .rw[A6 (by simpa using all)]
  exact vX (q n st hB n1 n2 up)
 .rw[A4 (by simpa using all)]
  let le:=aa.resolve_left all;by_cases many:GT.gt n 1
  .rw[A6 many];refine VG (IH hc hB () () ?_)
   by_cases U:iB rk (Vz st) 0<iB rk (Vz st) (n-1)
   .rw[ua U];simp![V5];exact vX (q n st hB n1 n2 up)
   .rw[ub U];simp![uY,Uq];let hz:n<=(Vz st).size:=by rw[hB.sz];omega
    let O:∀k,0<=k->k<n->iB rk (Vz st) k=iB rk (Vz st) (n-1):=λk _ kn=>by
     let a1:=up 0 k () kn
     let a2:=up k (n-1) () ()
     omega
    refine VG (Tp (EE hc hm () (hB.arr (tY _ _ _ _)) (XW (λi j ij jn=>?_) λ_=>?_) q))
    .show iB rk (Gb (Vz st) _ _ _) j<=iB rk (Gb (Vz st) _ _ _) i;rw[jq hz O,jq hz O,O i () (),O j () jn]
     exact Vv _
    .show iB rk (Gb (Vz st) _ _ _) n<=iB rk (Gb (Vz st) _ _ _) (n-1);rw[jq hz O,jq hz O];exact vB le
  .rw[A4 many];obtain rfl:n=1:=by omega
   refine EE hc hm () hB (XW (λi j ij jn=>?_) λ_=>vB le) q
   rw[show i=j by omega]
   exact Vv _
abbrev SD (rk:VO->Nat)(xs0:Array VO)(st:VQ):Prop:=(Vz st).Perm xs0/\tV st=U_/\(HW st).size=1/\Asc rk (Vz st) xs0.size
def SB.end (b:SB kd xs0 st)(h:Asc rk (Vz st) xs0.size)(z:Nat×Nat×Nat):SD rk xs0 (setPending st ((HW st).push z)):=(b.pm,b.ok,by show((HW st).push z).size=1;rw[b.pe];rfl,h)
def Ac3 {st:VQ}{Q:Unit->VQ->Prop}(U:Om P w A s kd xs0 rk)(hB:SB kd xs0 st)(h2:2<=xs0.size)(aa:xs0.size<64)
  (q:∀u,(Vz u).Perm xs0->tV u=U_->Asc rk (Vz u) xs0.size->Q Gk u):wpS (VC P w) A E s sortRuns' Q st:=by
 rw[sortRuns'_eq];refine VG (Hx ?_);dsimp only;let mr:minRun' xs0.size xs0.size 0=xs0.size:=by
  cases e:xs0.size with
  |zero=>omega|succ f=>rw[minRun'_succ,A6 ()]
 simp![hB.sz,mr];refine VG (T0 (HR (I:=λx c u=>(x=0/\c=(U_,0)/\SB kd xs0 u)\/(1<=x/\c=(U_,xs0.size)/\SD rk xs0 u)) (Q:=λc u=>c=(U_,xs0.size)/\SD rk xs0 u) ?st ?en (.inl [1:1:hB])) ?af)
 case en=>
  rintro c u (⟨z,_⟩|⟨_,b⟩)
  .omega
  .exact b
 case st=>
  rintro x c u _ hx (⟨rfl,rfl,b⟩|⟨_,rfl,b⟩)
  .dsimp only;rw[A4 ()]
   simp![RL,Nat.min_self,HY];refine VG (Ac2 U (Vv _) () b λk v b1 k1 k2 b2=>?_)
   dsimp only;let O:∀v:VQ,SB kd xs0 v->(HW v).back? =none:=λv bv=>by rw[bv.pe];rfl
   by_cases few:k<xs0.size
   .rw[A6 few];refine VG (TN (UB [1:?_]));refine VG (ED U (Vv _) k2 b1 b2 λv2 b3 b4=>?_);simp![tN,uY,Uq];refine VG (Hx ?_);rw[O v2 b3];exact VG (Fu (vX (.inr [():1:b3.end b4 _])))
   .rw[A4 few];obtain rfl:k=xs0.size:=by omega
    refine VG (Hx ?_);rw[O v b1];exact VG (Fu (vX (.inr [():1:b1.end b2 _])))
  .dsimp only;rw[A6 (Vv _)];exact vX [1:b]
 case af=>
  rintro c u ⟨rfl,b⟩;dsimp only;refine VG (T0 (HR (I:=λ_ c v=>v=u/\c=(U_,Gk)) (Q:=λc v=>v=u/\c=(U_,Gk)) ?_ (λ_ _ z=>z) [1:1]) ?_)
  .rintro x c v _ _ ⟨rfl,rfl⟩;refine VG (Hx ?_);rw[A6 (tS b.2.2.1)];exact vX [1:1]
  .rintro c v ⟨rfl,rfl⟩;exact vX (q _ b.1 b.2.1 b.2.2.2)
end
def EM {α β:Type}{g:α->β}{l m:oj β}(h:l.Perm m):∀O:oj α,m=O.map g->∃zs:oj α,zs.Perm O/\l=zs.map g:=by
 induction h with
 |nil=>
  intro O e;rw[show O= [] by simpa using e.symm,0]
  exact[[]:.nil:1]
 |cons x h ih=>
  intro O e;cases O with
  |nil=>rw[e,0]|cons z r=>
   rw[ur] at e;injection e with e1 e2
   erw[ih r e2,zs,p,q,<-⟨z::zs,.cons z p,by rw[ur,q,e1]⟩]
 |swap x y l=>
  intro O e
  match O,e with
  |a::b::r,e=>
   simp![ur,U2] at e;exact⟨b::a::r,.swap a b r,by simp![ur,e.1,e.2.1,e.2.2]⟩
 |trans h1 h2 U aa=>
  intro O e;erw[aa O e,zs,p,q];erw[U zs q,ys,p',q',<-[ys:p'.trans p:q']]
section
variable {P:o9}{w:og}{A:oh}{E:#[14]}{s:o7}
def BF {α β:Type}{f:α->β}{m:α->Sem β}:∀{vs:oj α}{Q:oj β->o7->Prop},(∀v>vs,∀Q:β->o7->Prop,Q (f v) s->Vu (VC P w) A (m v) Q E s)->Q (vs.map f) s->Vu (VC P w) A (vs.mapM m) Q E s
 | [],Q,_,q=>by rw[List.mapM_nil];exact uu q|v::vs,Q,h,q=>by
  rw[List.mapM_cons];exact A8 (h v uj _ (A8 (BF (λu O=>h u (ui _ O)) (uu q))))
def M5 {vs:oj o6}{T:String}{Q:om o6->o7->Prop}(h:∀v>vs,s.TypeIs v T)(ne:vs≠ [])(q:Q (u_ (.type T)) s):Vu (VC P w) A (oneTypeOnly' vs.toArray) Q E s:=by
 rw[oneTypeOnly'_eq,Ru];refine A8 (A8 (BF (f:=λ_=>Gj T) (λv U Q q=>Gn (h v U) q) (uu ?_)));cases vs with
 |nil=>exact A9 rfl ne|cons v r=>
  let h0:(HK (λ_=>Gj T) (v::r)).toArray[0]? =u_ (Gj T):=by simp
  rw[h0];let O:((HK (λ_=>Gj T) (v::r)).toArray.all λx=>x==Gj T)=true:=by
   simp![RH,US,U9];intro _ _;simp
  simp![O,V5];exact uu q
def NV:firstOfTuple'=λv=>(do
  if(<-Hy v) != .type "tuple" then return U_
  return (<-tu v)[0]?):=rfl
def DI (b:Bool)(x y:o6):keyLt' (T1 b) x y=(do
  let xs<-tu x;let ys<-tu y
  for ((p,q),i) in(xs.toList.zip ys.toList).zipIdx do
   if !(<-eqBool p q) then return<-oneLt' (b&&i==0) p q
  return xs.size<ys.size):=rfl
end
abbrev MO {α:Type}(lt:α->α->Bool)(l:oj α)(x:α):Nat:=l.countP λy=>lt y x
def AM {α:Type}{p q:α->Bool}:∀{l:oj α}{z:α},(∀y>l,p y=v_->q y=v_)->z>l->p z=Vt->q z=v_->l.countP p<l.countP q
 |x::l,z,h,hz,h1,h2=>by
  let hl:l.countP p<=l.countP q:=Rq λy O=>h y (ui _ O);rw[pM,pM];rcases Ab.mp hz with rfl|hz
  .rw[h1,h2];simp;omega
  .have:=AM (λy O=>h y (ui _ O)) hz h1 h2;let U:=h x uj;cases e:p x with|false=>cases q x<;>simp<;>omega|true=>rw[U e];simp;omega
structure Ab9 {α:Type}(lt:α->α->Bool)(l:oj α):Prop where
 irr:∀x>l,lt x x=Vt
 tr:∀x>l,∀y>l,∀z>l,lt x y=v_->lt y z=v_->lt x z=v_
 ng:∀x>l,∀y>l,∀z>l,lt x z=v_->lt x y=v_\/lt y z=v_
def OE {α:Type}{lt:α->α->Bool}{l:oj α}(o:Ab9 lt l){x y:α}(O:x>l)(U:y>l):decide (MO lt l x<MO lt l y)=lt x y:=by
 cases e:lt x y with
 |true=>
  refine ua (AM (z:=x) (λz hz h=>o.tr z hz x O y U h e) O (o.irr x O) e)
 |false=>
  refine ub λh=>A9 h (Nat.not_lt.mpr (Rq λz hz h=>?_));rcases o.ng z hz x O y U h with h|h
  .exact h
  .rw[e,0] at h
def Ae8 {α:Type}{lt:α->α->Bool}{l:oj α}(o:Ab9 lt l){x y:α}(O:x>l)(U:y>l)(h:MO lt l x<=MO lt l y):lt y x=false:=by
 rw[<-OE o U O];exact ub (Nat.not_lt.mpr h)
def wL {xs:oj V}{us:oj o6}(r:im xs us):∀is:oj Nat,im (is.filterMap (xs[·]?)) (is.filterMap (us[·]?))
 | []=> .nil|i::is=>by
  rw[vQ,vQ];let O:=↑r;cases e:xs[i]? with
  |none=>
   have:us[i]? =none:=UU (by have:=List.getElem?_eq_none_iff.mp e;omega)
   rw[this];exact wL r is
  |some x=>
   erw[r.get e,u,e2,g];rw[e2];exact .cons g (wL r is)
end L2
namespace L2
open PySem PySem.Spec PyProof.Rows
section
variable {P:o9}{w:og}{A:oh}{E:#[14]}{s:o7}{vs:oj o6}{kd:Hr}{rk:VO->Nat}
structure AfX (P:o9)(w:og)(A:oh)(s:o7)(vs:oj o6)(kd:Hr)(rk:VO->Nat):Prop where
 kk:∀h',(∀b o,s.heap.get? b=u_ o->h'.get? b=u_ o)->2<=↑vs->∀(E:#[14]) (Q:Hr->o7->Prop),Q kd {s with heap:=h'}->Vu (VC P w) A (keyKind' vs.toArray) Q E {s with heap:=h'}
 by_:∀h',(∀b o,s.heap.get? b=u_ o->h'.get? b=u_ o)->Om P w A {s with heap:=h'} kd (vs.toArray.zip vs.toArray) rk
def AcR {a:o3}{n:Nat}{Q:Fin->o7->Prop}{h0:o8}(hk:∀b o,s.heap.get? b=u_ o->h0.get? b=u_ o)(na:s.heap.get? a=U_)(c:AfX P w A s vs kd rk)(ho:h0.get? a=u_ (gV "list" vs.toArray n))(ad:↑vs<64)
  (q:∀(ys:Array VO),ys.Perm (vs.toArray.zip vs.toArray)->Asc rk ys ↑vs->Q (.done (.ret .none)) {s with heap:=sortedHeap h0 a vs (ys.map (·.2))}):
  Vu (VC P w) A (Gg.«list.sort» [[-a]:[]]) Q E {s with heap:=h0}:=by
 rw[list_sort_plain];let hs:=uF;let ha:a<h0.objs.size:=uD ho;refine A8 (tT (s:={s with heap:=h0}) ho rfl (A8 (FC (s:={s with heap:=h0}) ho rfl ?_ (hsz:=by simp;omega) (hsz2:=by simp))))
 obtain⟨e1,aa⟩:∃e1,(h0.update a (Ge λ_=> #[])).get? a=u_ (gV "list" #[] e1):=[_:get?_update_seq ho (λ_=> #[])];refine A8 (FS (s:={s with heap:=h0.update a (Ge λ_=> #[])}) aa rfl (A8 (pO (A8 (Vo (VX ?_) (by simp))) (by simp;omega))))
 let O:(((h0.update a (Ge λ_=> #[])).push (gV "tuple" vs.toArray 0)).push (gV "list" #[] 0)).get? a=u_ (gV "list" #[] e1):=ug _ (ug _ aa);let kp:∀b o,s.heap.get? b=u_ o->(((h0.update a (Ge λ_=> #[])).push (gV "tuple" vs.toArray 0)).push (gV "list" #[] 0)).get? b=u_ o:=λb o e=>ug _ (ug _ ((vO _ _ (λz=>by rw[z,e,0] at na)).trans (hk b o e)))
 show Vu (VC P w) A _ Q E {s with heap:=((h0.update a (Ge λ_=> #[])).push (gV "tuple" vs.toArray 0)).push (gV "list" #[] 0)}
 dsimp only;let hz:(vs.toArray.zip vs.toArray).size=↑vs:=by simp
 by_cases h2:vs.toArray.size<2
 .rw[A6 h2,A6 h2];refine A8 (uu ?_);rw[StateT.run_pure];refine A8 (uu ?_);dsimp only;refine A8 (FS (s:={s with heap:=_}) O rfl (A8 (FC (s:={s with heap:=_}) O rfl ?_ (hsz:=by simp) (hsz2:=by rw[Rv];show(vs.toArray.zip vs.toArray).size<=_;omega))))
  simp![bne_self_eq_false,uY,Uq];refine uu (q _ (RI _) λi j ae hj=>?_);have:i=j:=by simp at h2;omega
  subst this;exact Vv _
 .rw[A4 h2,A4 h2];let ac:2<=↑vs:=by simp at h2;omega
  refine A8 (c.kk _ kp ac E _ ?_);refine A8 (vz (Ac3 (kd:=kd) (c.by_ _ kp) (st:=SortSt.mk' kd (vs.toArray.zip vs.toArray) #[] 7 U_) (Q:=λ_ U=>(Vz U).Perm (vs.toArray.zip vs.toArray)/\tV U=U_/\Asc rk (Vz U) (vs.toArray.zip vs.toArray).size)
   (RI _,1,1,1) () () λu a1 a2 a3=>[a1:a2:a3]) ?_ λ_ _ z=>z)
  rintro⟨⟨⟩,st⟩ s' ⟨rfl,hp,hf,hA⟩;dsimp only;refine A8 (FS (s:={s with heap:=_}) O rfl (A8 (FC (s:={s with heap:=_}) O rfl ?_ (hsz:=by simp) (hsz2:=by rw[Rv,hp.size_eq];omega))))
  rw[hf];simp![bne_self_eq_false,uY,Uq];exact uu (q _ hp (by rwa[<-hz]))
def MK {l:o3}{Q:#[14]}(hl:s.heap.IsList l vs.toArray)(U:↑vs<64)(c:AfX P w A.in1.in1 s vs kd rk)
  (q:∀(ys:Array VO),ys.Perm (vs.toArray.zip vs.toArray)->Asc rk ys ↑vs->Q (.ref (#[0,s]+1)) {s with heap:=sortedAll s.heap vs (ys.map (·.2))}):
  Vu (VC P w) A (call (.builtin "sorted") [-l]) Q E s:=by
 refine Calls.call_function_entry Pn RC R6 (rO _) ?_;let hs:=uF;unfold Gg.«sorted»;refine A8 (m:=checkCount "sorted" 1 1 _) (uu (A8 (collect_list hl (A8 (Vo ?_ ())) ())))
 let hz:((s.heap.push (gV "list" #[] 0)).update #[0,s] (Ge (·++vs.toArray))).objs.size=#[0,s]+1:=by
  rw[Heap.size_update,size_push']
 let O:(((s.heap.push (gV "list" #[] 0)).update #[0,s] (Ge (·++vs.toArray))).push (gV "list" vs.toArray 0)).get? (#[0,s]+1)=u_ (gV "list" vs.toArray 0):=by
  rw[<-hz];exact uC _ rfl
 show Vu _ _ _ _ _ {s with heap:=((s.heap.push (gV "list" #[] 0)).update #[0,s] (Ge (·++vs.toArray))).push (gV "list" vs.toArray 0)};rw[hz]
 refine A8 (VX (U7 PR [_:O:1] RW (AcR (s:=s) (λb o e=>?_) (Rl (UO _)) c O U λys a1 a2=>[0:?_]) (Pl _)))
 .let hb:=uD e;refine ug _ ((vO _ _ (vZ hb)).trans (ug _ e))
 .exact uu [0:q ys a1 a2]
end
end L2
namespace L2
open PySem PyProof.Rows
section
variable {P:o9}{w:og}{A:oh}{E:#[14]}{s:o7}
def DH {vs:oj o6}{Q:Hr->o7->Prop}(h:∀v>vs,∃a its i t,v= .ref a/\Gr s.heap a its/\its[0]? =u_ (.str i t))(ne:vs≠ [])(q:Q (T1 v_) s):Vu (VC P w) A (keyKind' vs.toArray) Q E s:=by
 rw[keyKind'_eq,Ru];let hf:=NV;let hd:∃f:o6->om o6,∀v>vs,∃a its i t,v= .ref a/\Gr s.heap a its/\its[0]? =u_ (.str i t)/\f v=u_ (.str i t):=by
  refine⟨λv=>match v with
   | .ref a=>match s.heap.get? a with
    |some o=>match o.data with
     | .seq its _=>its[0]?|_=>U_
    |none=>U_
   |_=>U_,λv O=>?_⟩
  erw[h v O,a,its,i,t,rfl,ht,e];erw[id ht,o,ho,hc,n,aa,<-(a,its,i,t,1,ht,e,by simp![ho,aa];exact e)]
 erw[hd,f,U];refine A8 (A8 (BF (f:=f) (λv O Q q=>?_) (uu ?_)))
 .rw[hf];erw[U v O,a,its,i,t,rfl,ht,e,e2];erw[id ht,o,ho,hc,n,aa];refine A8 (Gn (T:="tuple") [o:ho:hc] ?_);rw[A4 ()]
  refine A8 (tT ho aa ?_);rw[e];rw[e2] at q;exact uu q
 .let ac:((HK f vs).toArray.all λx=>x.isSome)=true:=by
   simp![RH,US,U9];intro v O;erw[U v O,a,its,i,t,rfl,_,_,e2];simp![oI,e2]
   rfl
  rw[A6 ac];let ad:∃us:oj o6,(HK f vs).toArray.filterMap id=us.toArray/\us≠ []/\∀u>us,∃i t,u= .str i t:=by
   rw[_,vs.filterMap f,?_,?_,?_]
   .simp
   .cases vs with
    |nil=>exact A9 rfl ne|cons v r=>
     erw[U v uj,a,its,i,t,_,_,_,e2];rw[vQ,e2];simp
   .intro u hu;erw[List.mem_filterMap.mp hu,v,O,e];erw[U v O,a,its,i,t,_,_,_,e2];rw[e2,0] at e;exact[i:t:1]
  erw[ad,us,e1,e2,e3];rw[e1];refine A8 (UB (A8 (M5 (T:="str") (λv O=>?_) e2 ?_)))
  .erw[e3 v O,i,t,rfl,<-vT s i t]
  .exact uu q
def IR {l b:o3}{i k:Str}{t u:Tok}{xs ys:oj o6}{Q:Bool->o7->Prop}(hl:Gr s.heap l (.str i t::xs).toArray)(hb:Gr s.heap b (.str k u::ys).toArray)(same:i=k->l=b)
  (q:Q (decide (i.cps.toList<k.cps.toList)) s):Vu (VC P w) A (keyLt' (T1 v_) (-l) (-b)) Q E s:=by
 erw[id hl,o,ho,hc,n,hd];erw[id hb,o2,O,ac,n2,U];let hx:i=k->(.str i t::xs)=(.str k u::ys):=λe=>by
  let e2:=same e;subst e2;rw[ho,0] at O;rw[hd] at U;injection U with e3
  exact Aa Fj e3
 rw[DI];refine A8 (tT ho hd (A8 (tT O U ?_)));refine A8 (wpAny_forIn_list _ (λrest (r:om Bool×Unit) v=>r.1=U_/\v=s/\((i=k/\∀z>rest,z.1.1=z.1.2)\/(i≠k/\∃m,rest=((.str i t,.str k u),0)::m))) _ ?_ ?_ _ _ [1:1:?_])
 .rintro⟨⟨p,q'⟩,j⟩ rest ⟨r1,r2⟩ v ⟨hr,rfl,hz⟩;rcases hz with⟨e,hz⟩|⟨e,m,hz⟩
  .let aa:p=q':=hz _ uj;subst aa;refine A8 (tM (A:=A) _ P w _ _ ?_);rw[A4 (by simp)]
   exact uu [1:1:.inl [e:λz h=>hz z (ui _ h)]]
  .injection hz with h1 h2
   injection h1 with h1 h3
   injection h1 with h1 h4
   subst h1 h3 h4;refine A8 (FQ (A:=A) i t k u P w _ _ ?_);rw[A6 (by simp[e])]
   exact A8 (oneLt_str (uu (uu q)))
 .rintro⟨r1,r2⟩ v ⟨hr,rfl,hz⟩;rw[show r1=U_ from hr,0]
  rcases hz with⟨e,hz⟩|⟨e,m,hz⟩
  .let e2:=hx e;subst e;rw[ub (Po _)] at q;rw[e2];refine uu ?_;rwa[ub (vC _)]
  .rw[hz,0]
 .by_cases e:i=k
  .refine .inl [e:λz hz=>?_];rw[hx e] at hz;erw[z,[a,c],j];let h1:=(tK (pk hz)).1;let h2:=pk hz;erw[List.mem_iff_getElem?.mp h2,m,hm];rw[vW] at hm;exact uJ (hm.1.symm.trans hm.2)
  .exact .inr [e:0]
end
end L2
namespace L2
open PySem PySem.Spec PyProof.Rows
abbrev ltS (a b:Str):Bool:=decide (a.cps.toList<b.cps.toList)
def II (l:oj Str):Ab9 ltS l:=by
 rw[_,λx _=>ub (Po _),λx _ y _ z _ h1 h2=>ua (List.lt_trans (uq h1) (uq h2)),λx _ y _ z _ h=>?_];by_cases h1:x.cps.toList<y.cps.toList
 .exact .inl (ua h1)
 .exact .inr (ua (List.lt_of_le_of_lt (List.not_lt.mp h1) (uq h)))
structure Dd (H:Hp)(ds:oj (Str×oj D×V)):Prop where
 at_:∀x>ds,Is H (.tup (.str x.1::x.2.1)) x.2.2
 nd:(ds.map (·.1)).Nodup
section
variable {X:Cx}{oq:#[16]}{σ:St}{H:Hp}{s:o7}
variable {us:oj o6}{i:Nat}{u:o6}
def B9 {ds:oj (Str×oj D×V)}(I:#[I])(T:Dd H ds)(rv:im (ds.map (·.2.2)) us)(e:us[i]? =u_ u):
  ∃x l ws its t,ds[i]? =u_ x/\u= .ref l/\↑x.1<=Vw/\IsL H x.2.1 ws/\im ws its/\Gr s.heap l (G6 x.1 t::its).toArray:=by
 let hl:↑us=↑ds:=by rw[<-↑rv,uc]
 let hi:i<↑ds:=by rw[<-hl];exact(Ah.mp e).1
 let e1:=um hi;obtain⟨u',f1,g⟩:=rv.get (i:=i) (x:=ds[i].2.2) (by rw[uG,e1];rfl)
 rw[e,0] at f1;erw[(T.at_ _ (v9 hi)),l,ws,e2,O,il];rw[e2,0] at g;erw[il,w1,r1,rfl,h1,h2];obtain⟨rfl,hz⟩:=(show w1= .str ds[i].1/\ds[i].1.length<=Vw by simpa [Is] using h1)
 obtain⟨_,its,U,pl⟩:=(show QT X.prog X.w H s.heap l (.tup (.str ds[i].1::r1)) from I.hok l _ O)
 cases U with
 |cons g1 g2=>
  erw[g1,t,rfl,<-(_,l,r1,_,t,e1,1,hz,h2,g2,pl)]
def AfF {ds:oj (Str×oj D×V)}{B:oh}(I:#[I])(T:Dd H ds)(rv:im (ds.map (·.2.2)) us)(hu:B.units+40<VI):
  ∃rk,AfX X.prog X.w B s us (T1 v_) rk/\∀(i:Nat) (x:Str×oj D×V) (u:o6),ds[i]? =u_ x->us[i]? =u_ u->rk (u,u)=MO ltS (ds.map (·.1)) x.1:=by
 refine_lift let hd:o6->Str:=λv=>match v with
  | .ref a=>match s.heap.get? a with
   |some o=>match o.data with
    | .seq its _=>match its[0]? with
     |some (G6 n _)=>n|_=>Hq
    |_=>Hq
   |none=>Hq
  |_=>Hq;?_
 let O:∀(i:Nat) (x:Str×oj D×V) (u:o6),ds[i]? =u_ x->us[i]? =u_ u->hd u=x.1:=λi x u U e2=>by
  erw[B9 I T rv e2,x',l,ws,its,t,f1,rfl,_,_,_,o,ho,hc,n,aa];rw[U] at f1;cases f1;show hd (-l)=_;simp![hd,ho,aa];simp
 refine⟨λp=>MO ltS (ds.map (·.1)) (hd p.1),[λh' k h2 E Q q=>?_:λh' k p hp q hq E Q h=>?_],λi x u U e2=>by show MO ltS _ (hd u)=_;rw[O i x u U e2]⟩
 .let I':Inv X oq σ H {s with heap:=h',toks:=s.toks}:=I.laidM k (λ_ _ e=>e) (λb o U e2=>by rw[U] at e2;cases e2) I.tk
  refine DH (s:={s with heap:=h'}) (λv hv=>?_) (λz=>by rw[z] at h2;simp at h2) q
  erw[List.mem_iff_getElem?.mp hv,i,hi];erw[B9 I' T rv hi,x,l,ws,its,t,_,rfl,_,_,_,pl];exact(l,_,x.1,t,1,pl,by simp)
 .let I':Inv X oq σ H {s with heap:=h',toks:=s.toks}:=I.laidM k (λ_ _ e=>e) (λb o U e2=>by rw[U] at e2;cases e2) I.tk
  let mem:∀p>(us.toArray.zip us.toArray).toList,∃i,us[i]? =u_ p.1:=λp hp=>by
   let ac:p>us.zip us:=by simpa using hp
   erw[List.mem_iff_getElem?.mp ac,i,hi];rw[vW] at hi;exact[i:hi.1]
  erw[mem p hp,i,hi];erw[mem q hq,j,hj];erw[p,p1,p2];erw[q,q1,q2];erw[B9 I' T rv hi,x,l,ws,its,t,ex,rfl,ae,af,ag,pl];erw[B9 I' T rv hj,y,m,zs,its',t',ey,rfl,ah,ak,al,ad];let mx:x>ds:=uL ex;let my:y>ds:=uL ey;simp only [O i x _ ex hi,O j y _ ey hj,OE (II _) (Af.mpr [x:mx:1]) (Af.mpr [y:my:1])] at h;refine IR (s:={s with heap:=h'}) pl ad (λhn=>?_) h
  let e3:(ds.map (·.1))[i]? =u_ x.1:=by rw[uG,ex];rfl
  let e4:(ds.map (·.1))[j]? =u_ x.1:=by rw[uG,ey,hn];rfl
  have:=wx T.nd e3 e4;subst this;rw[hi] at hj;cases hj
  rfl
def AQ (hu:X.A.units+64<VI):yT X (.builtin "sorted") (λxs H Q=>∃(p:o3) (ds:oj (Str×oj D×V)),xs= [-p]/\SqL X.K H p (ds.map (·.2.2))/\Dd H ds/\↑ds<64/\∀(es:oj (Str×oj D×V)) (q:o3),es.Perm ds->es.Pairwise (λa b=>ltS b.1 a.1=Vt)->H q=U_->Q (-q) (upd H q (.lst (es.map (·.2.2))))):=by
 rw[2,xs,us,Q,I,r,h];erw[h,p,ds,rfl,hp,T,ao,q];erw[jL r,u,rfl,ru];rw[ru,0];erw[I.list hp,its,rv,pl,hz];let hl:↑its=↑ds:=by have:=↑rv;simpa using this.symm
 obtain⟨rk,c,ah⟩:=AfF (B:=X.A.in1.in1) I T rv (by rw[vb,vb];omega)
 refine MK pl.isList () c λys ac ad=>?_
 let ak:ys.toList.Perm (its.zip its):=by simpa using Array.perm_iff_toList_perm.mp ac
 obtain⟨zs,ae,af⟩:=EM (g:=λz:(Str×oj D×V)×o6=>((z.2,z.2):VO)) ak (ds.zip its) (by
  refine List.ext_getElem? λi=>?_;rw[uG];by_cases hi:i<↑ds
  .rw[um (by simp;omega),um (by simp;omega)]
   simp
  .rw[UU (by simp;omega),UU (by simp;omega)]
   rfl)
 let mem:∀z>zs,z.1>ds/\ii z.1.2.2 z.2/\rk (z.2,z.2)=MO ltS (ds.map (·.1)) z.1.1:=λz hz=>by
  erw[List.mem_iff_getElem?.mp (ae.mem_iff.mp hz),i,hi];rw[vW] at hi;obtain⟨u',f1,g⟩:=rv.get (i:=i) (x:=z.1.2.2) (by rw[uG,hi.1];rfl)
  rw[hi.2,0] at f1;exact[uL hi.1:g:ah i _ _ hi.1 hi.2]
 let ag:(zs.map (·.1)).Perm ds:=by
  have:=ae.map (·.1)
  rwa[List.map_fst_zip ()] at this
 let al:(ys.map (·.2)).toList=zs.map (·.2):=by
  rw[Array.toList_map,af,uR]
  rfl
 let O:∀l:oj ((Str×oj D×V)×o6),(∀z>l,ii z.1.2.2 z.2)->im ((l.map (·.1)).map (·.2.2)) (l.map (·.2)):=by
  intro l
  induction l with
  |nil=>intro _;exact .nil|cons z r ih=>intro hr;exact .cons (hr z uj) (ih λy hy=>hr y (ui _ hy))
 let aa:(zs.map (·.1)).length=↑ds:=ag.length_eq;erw[sortedAll_at s.heap its (ys.map (·.2)),e,he];rw[_,.ref (#[0,s]+1),_,I.laid (t':=s.toks) (o:= .lst ((zs.map (·.1)).map (·.2.2))) (λb u w=>sortedAll_old w) (UO _) ⟨?_,(ys.map (·.2)).toList,e,?_,he⟩,1,q _ _ ag ?_ (I.hok.fresh (UO _))]
 .rw[uc,aa,uF];omega
 .rw[al];exact O zs λz hz=>(mem z hz).2.1
 .rw[List.pairwise_map,List.pairwise_iff_getElem];intro i j hi hj am;let U:∀k (hk:k<↑zs),iB rk ys k=MO ltS (ds.map (·.1)) zs[k].1.1:=λk hk=>by
   unfold iB;rw[<-Ui,af,uG,um hk];exact(mem _ (v9 hk)).2.2
  let ap:↑zs=↑its:=by rw[uc] at aa;omega
  have:=ad i j (vB am) ()
  rw[U i hi,U j hj] at this;exact Ae8 (II _) (Af.mpr [_:(mem _ (v9 hi)).1:1]) (Af.mpr [_:(mem _ (v9 hj)).1:1]) this
end
section
variable {X:Cx}{oq:#[16]}{σ:St}{H:Hp}{s:o7}{d:o3}
def D5 {prog:o9}{w:og}{A:oh}{E:#[14]}{r:o3}{Q:#[14]}{G:oj o6->o7->Prop}(aa:s.TypeIs (-r) "dict")
  (U:∀(R:oj o6->o7->Prop) (E':#[14]),(∀vs s',G vs s'->R vs s')->Vu #[w,w] A.in1.in1 (collect (-r)) R E' s)
  (hQ:∀vs s',G vs s'->↑vs<=Vw/\Q (.ref #[0,s']) {s' with heap:=s'.heap.push {cls:= .type "tuple",data:= .seq vs.toArray}}):
  Vu #[w,w] A (call (.type "tuple") [-r]) Q E s:=by
 let new:G9 #[w,w] A.in1 (.call (.builtin "tuple.__new__") ⟨[.type "tuple",-r],[]⟩) (wants (λobj O=>O.TypeIs obj "tuple"/\Q obj O) E) s:=by
  refine pC ?_;show Vu _ A.in1.in1 (do Tj "tuple.__new__" [[.type "tuple",-r]:[]];again (.builtin "tuple.__new__" [[.type "tuple",-r]:[]])) _ _ s
  refine A8 (Td (PySem.F.newCall_tuple_1 _) (uu [Vp Uy _:Vi PySem.F.entry_tuple_new ?_]));rw[V6 Uy _];let s1:=rF;let s2:=Ph;let s3:=Px
  wp_walk using Gn aa,U
  intro vs s' hg;erw[hQ vs s' hg,hl,hq];show Vu _ _ (G_ vs.toArray>>=λv=>ret v) _ _ _;unfold G_;refine A8 (vq ?_ (by show vs.toArray.size<=Vw;simpa using hl))
  exact uu [[_:uC _ rfl:1]:hq]
 refine T4 (Q₁:=λobj O=>O.TypeIs obj "tuple"/\Q obj O) PySem.F.called_tuple (PySem.F.typeCall_tuple_1 _) PySem.F.entry_object_init new λobj O h₁=>?_;exact[h₁.1:PySem.F.args_object_init_2 obj _:Pv PySem.F.called_tuple.init.lookup PySem.F.called_tuple.made () prog w A.in1 _ O [h₁.1:1:h₁.2]]
end
section
variable {X:Cx}
def BU (hc:X.calm=v_):yT X (.type "tuple") (λxs H Q=>∃(d:o3) (kvs:oj (Key×V)),xs= [-d]/\Rd H d (.dK kvs)/\∀t,H t=U_->Q (-t) (upd H t (.tup (kvs.map λp=>kV p.1)))):=by
 rw[2,xs,us,Q,I,r,h];erw[h,d,kvs,rfl,hd,q];erw[jL r,u,rfl,ru];rw[ru,0];erw[zI I.hok hd,hz,lo,vs,aa,dd];erw[id dd,o,es,ep,ho];let ad:s.heap.DictAt (Qc X.prog X.w) d vs ep:=[o:es:ho];refine uQ (n:=1) I.tk ?_;refine D5 (G:=λus s'=>∃(h':o8) (tk:Nat) (O:Array o6),us=O.toList/\s'={s with heap:=h',toks:=tk}/\(∀b o,s.heap.get? b=u_ o->h'.get? b=u_ o)/\Ff (λi v=>∃k x,vs[i]? =u_ (k,x)/\(Qc X.prog X.w).is k v=v_) O ↑vs) dd.typeIs
  (λR E' k=>PySem.W.kdu_collect (A:=X.A.in1.in1) (PySem.W.kdl_dict lo) (I.ok.hd hc) ad (by rwa[<-↑aa]) λh' tk O ac U=>k _ _ (h',tk,O,1,1,ac,U)) ?_
 rintro us s' ⟨h',tk,O,rfl,rfl,ac,U⟩;let ae:↑O.toList=↑vs:=by rw[vi,U.1]
 let af:=↑aa;rw[_,(),λhtk=>?_]
 let I':Inv X oq σ H {s with heap:=h',toks:=tk}:=I.kept ac htk
 let hv:im (kvs.map λp=>kV p.1) O.toList:=by
  refine wp (by rw[uc];omega) λj x v hx hv=>?_
  rw[uG] at hx;cases hj:kvs[j]? with
  |none=>rw[hj,0] at hx|some p=>
   rw[hj,0] at hx;obtain⟨k,y,e1,e2⟩:=U.2 j v (by rwa[<-Ui])
   let e3:=(wR aa hj e1).1;show ii (kV p.1) v;rw[e3];exact IU e2
 refine(-h'.objs.size,_,I'.laid (t':=tk) (o:= .tup (kvs.map λp=>kV p.1)) (λb u w=>ug _ w) (Vv _) (by rwa[uc],O.toList,hv,(_,uC _ rfl,1,0)) htk,1,q _ (I'.hok.fresh (Vv _)))
end
section
variable {x q:Str}{st:Stmt}{a b c d:Str}
def bo1 (h:∀(kV doc pm:o6) (an:om o3) (cdv ct u:o6),GZ (PySem.W.fnOf x q (Y1 st) (Ya st) (ql st) .none kV doc pm an cdv ct) [[u]:[]]=pure [(a,u)]):BOk x q st [a]:=by
 intro k1 k2 k3 U k5 k6 us O;rcases us with _|⟨u,_|⟨_,_⟩⟩
 .rw[O,0]
 .exact h k1 k2 k3 U k5 k6 u
 .rw[O,0]
def bo2 (h:∀(kV doc pm:o6) (an:om o3) (cdv ct u v:o6),GZ (PySem.W.fnOf x q (Y1 st) (Ya st) (ql st) .none kV doc pm an cdv ct) [[u,v]:[]]=pure [(a,u),(b,v)]):BOk x q st [a,b]:=by
 intro k1 k2 k3 U k5 k6 us O;rcases us with _|⟨u,_|⟨v,_|⟨_,_⟩⟩⟩
 .rw[O,0]
 .rw[O,0]
 .exact h k1 k2 k3 U k5 k6 u v
 .rw[O,0]
def bo3 (h:∀(kV doc pm:o6) (an:om o3) (cdv ct u v w:o6),GZ (PySem.W.fnOf x q (Y1 st) (Ya st) (ql st) .none kV doc pm an cdv ct) [[u,v,w]:[]]=pure [(a,u),(b,v),(c,w)]):BOk x q st [a,b,c]:=by
 intro k1 k2 k3 U k5 k6 us O;rcases us with _|⟨u,_|⟨v,_|⟨w,_|⟨_,_⟩⟩⟩⟩
 .rw[O,0]
 .rw[O,0]
 .rw[O,0]
 .exact h k1 k2 k3 U k5 k6 u v w
 .rw[O,0]
def bo4 (h:∀(kV doc pm:o6) (an:om o3) (cdv ct u v w z:o6),GZ (PySem.W.fnOf x q (Y1 st) (Ya st) (ql st) .none kV doc pm an cdv ct) [[u,v,w,z]:[]]=pure [(a,u),(b,v),(c,w),(d,z)]):BOk x q st [a,b,c,d]:=by
 intro k1 k2 k3 U k5 k6 us O;rcases us with _|⟨u,_|⟨v,_|⟨w,_|⟨z,_|⟨_,_⟩⟩⟩⟩⟩
 .rw[O,0]
 .rw[O,0]
 .rw[O,0]
 .rw[O,0]
 .exact h k1 k2 k3 U k5 k6 u v w z
 .rw[O,0]
end
abbrev AeL (K:o0)(a:o3)(n:Nat):It:=
 ⟨λi H=>i<n/\∃xs,SqL K H a xs/\↑xs=n,λi H x H'=>H'=H/\∀xs,SqL K H a xs->xs[n-1-i]? =u_ x,λi _=>i=n⟩
variable {w:og}{K:o0}{tg:Expr}
def D2 {P:o9}(a it:o3)(n:Nat):Sw P w K tg (AeL K a n) [it] it (λi h=>i<=n/\h.IsRevIter it a ((n:Int)-1-(i:Int))) where
 mem:=by simp
 obj:=λi h st b U=>by
  let e:b=it:=by simpa using U
  subst e;erw[st,_,o,e,c,d,<-⟨o,e,λv z=>by rw[d,0] at z⟩]
 keep:=λi h h' st k=>⟨st.1,st.2.at λo e=>k it (by simp) o e⟩
 item:=by
  rw[24];subst hP hw hK;erw[hg,hi,xs,hq,hx];erw[I.list hq,its,rv,p,hz];erw[rv.get (i:=n-1-i) (x:=xs[n-1-i]'()) (um ()),u,hu,ru]
  rw[21]
  let e0:(n:Int)-1-(i:Int)=((n-1-i:Nat):Int):=by omega
  let O:=st.2;rw[e0] at O;refine wpAny_pyNext_rev_item O p.isList (x:=u) (by simpa using hu) λh' aa sb=>?_
  let I1:Inv X oq σ H {s with heap:=h'}:=I.turned (t':=s.toks) (λb o U e=>(sb.2 b U).trans e) f0 f1 f3 f4 f5
  erw[id aa,o,e,c,d];rw[_,u,1,DN (s:={s with heap:=h'}) e c d () (xs[n-1-i]'(),H,I1,ru,[1:λys hy=>?_],[hi:?_],λb U=>(hf b U).1)]
  .rw[I.list_inj hy hq];exact um ()
  .rw[show(n:Int)-1-((i+1:Nat):Int)=((n-1-i:Nat):Int)-1 by omega]
   exact aa
 done:=by
  rw[24];subst hP hw hK;let hi:i=n:=hg;subst hi;rw[21]
  let O:=st.2;rw[show(i:Int)-1-(i:Int)= -1 by omega] at O
  exact wpAny_pyNext_rev_end (I.ok.hd hc) O λh' eb=>[1:I.turned (t':=s.toks) (λb o U e=>eb b o U e) f0 f1 f3 f4 f5]
 self:=λ_ _ _ _ _ st h=>rL st.2 h
abbrev Afv (K:o0)(te:TE):TI:=λσ H R=>te σ H λx H2=>∃a xs,x= .ref a/\SqL K H2 a xs/\R (AeL K a ↑xs) H2
section
variable {X:Cx}
def AaH {tg:Expr}{p pos:Pos}{e:Expr}{te:TE}(hg:Gl X "reversed")(hm:X.mg "reversed"=U_)(he:PE X e te)(hs:VA [e] X.env= [(Vt,eval e X.env)]):
  PI X tg (.Call (.Name "reversed" p) [e] [] pos) (Afv X.K te):=by
 rw[2,R,I,h];let ha:PA X [e] (Mr te Ack):=qb he qd hs;refine T5 (x8 I hg hm pf (vf (thn (ha pos oq s σ H (λvs H2=>match vs with| [x]=>∃a xs,x= .ref a/\SqL X.K H2 a xs/\R (AeL X.K a ↑xs) H2|_=>False) I h) λus s2 zq=>?_) (by rw[hs];rfl) ()));erw[zq,vs,H2,U,r1,q1]
 match vs,r1,q1 with
 | [x],r1,q1=>
 erw[q1,a,xs,rfl,hA,q];erw[jL r1,u,rfl,ru];rw[ru,0];erw[U.list hA,its,ra,pa,za];let hl:=↑ra;refine Rr pa.isList ?_;let O:(s2.heap.push (HS a ((its.toArray.size:Int)-1))).IsRevIter #[0,s2] a ((its.toArray.size:Int)-1):=(_,uC _ rfl,1,1);refine rL O ?_;rw[_,_,[#[0,s2]],_,_,H2,1,U.kept (t':=s2.toks) (λb o e=>ug _ e),D2 a _ ↑xs,[uN _:?_],λx hx=>?_,q]
 .simpa [hl] using O
 .let e:x=#[0,s2]:=by simpa using hx
  subst e;exact U.fpOk (Vv _) (U.hok.fresh (Vv _))
end
section
variable {prog:o9}{w:og}{A:oh}{E:#[14]}{s:o7}{I l:o3}{items:Array o6}
def Dt {R:GP->o7->Prop}(hh:A.handled=U_)(ag:l≠I)(aa:s.heap.IsRevIter I l ((items.size:Int)-1))(hl:s.heap.IsList l items)(S:o3)(ac:S≠I)(ah:S≠l)(res:o6)(c₀:Nat)(hS:s.heap.get? S=u_ {cls:= .type "list",data:= .seq #[] c₀})
  (hR:∀s' O c',Moved [S,I] (λa b=>b=a) s s'->s'.heap.get? S=u_ {cls:= .type "list",dict:=U_,data:= .seq O c',slots:= #[]}->Ff (λi v=>items[items.size-1-i]? =u_ v) O items.size->R (.ok (.ret res)) s') (hn:items.size<=Vw):
  Vu #[w,w] A.in1 (tW (-S) (-I) res)
   (λfin s'=>match fin with| .done f=>R (.ok f) s'| .again c'=>c'.quiet=v_/\G9 #[w,w] A c' R s') (λe s'=>R (.error e) s') s:=by
 let W:=(Walks.listRev (prog:=prog) (w:=w) (A:=A.in1) hh I l ag items).toS;let ad:(0<=items.size/\s.heap.IsRevIter I l ((items.size:Int)-1-((0:Nat):Int))/\s.heap.IsList l items):=⟨uN _,by simpa using aa,hl⟩
 let ak:S∉ [I,l]:=λm=>by
  rcases Ab.mp m with e|m
  .exact ac e
  .exact ah (Ac.mp m)
 let U:s.TypeIs (-I) "list_reverseiterator":=let⟨o,e,c,_⟩:=aa;[o:e:c];let h1:PP (-S) (-I)=false:=by simp[PP,ac]
 unfold tW;refine A8 (Gn U ?_);rw[A4 (by rw[h1];decide)]
 refine A8 (W.self 0 _ _ _ ad ?_);refine A8 (VX ?_);unfold oT;refine A8 (FI U Iv ?_);show Vu _ A.in1 (specialOf (VB I) (Hm "__length_hint__")>>=_) _ _ _;refine A8 (FI U NP ?_)
 (generalize ae:("list_reverseiterator.__length_hint__":String)=al;wp_delta;rw[show splitId al=u_ ("list_reverseiterator","__length_hint__") from by subst ae;rw[12]];subst ae)
 refine A8 (Vb (b:=v_) U (by rw[rY];kernel_rfl) ?_)
 refine uu ?_;rw[A4 ()]
 exact uu [Vp PySem.F.plain_extend_loop _:codeAny_extend_loopS W hn _ ak _ items.size 0 _ _ _ rfl (uN _) ad hS (ItemsOf.nil _) λs' O c' hm am af=>hR s' O c' hm am af]
def MP {Q:#[14]}(hh:A.handled=U_)(ad:l≠I)(aa:s.heap.IsRevIter I l ((items.size:Int)-1))(hl:s.heap.IsList l items)(hn:items.size<=Vw)
  (hQ:∀h' tk O c',(∀b o,b≠I->s.heap.get? b=u_ o->h'.get? b=u_ o)->h'.get? #[0,s]=u_ {cls:= .type "list",dict:=U_,data:= .seq O c',slots:= #[]}->Ff (λi v=>items[items.size-1-i]? =u_ v) O items.size->Q (.ref #[0,s]) {s with heap:=h',toks:=tk}):
  Vu #[w,w] A (call (.type "list") [-I]) Q E s:=by
 let hI:I<#[0,s]:=let⟨_,e,_⟩:=aa;uD e;let hL:l<#[0,s]:=let⟨_,e,_⟩:=hl;uD e;refine T4 (Q₁:=λobj s₁=>obj= .ref #[0,s]/\s₁={s with heap:=s.heap.push {cls:= .type "list",data:= .seq #[]}}) PySem.F.called_list (PySem.F.typeCall_list_1 _) PySem.F.entry_list_init
  (code_list_new _ [1:1]) λobj s₁ h₁=>?_
 erw[h₁,rfl,rfl];let hS:(s.heap.push {cls:= .type "list",data:= .seq #[]}).get? #[0,s]=u_ {cls:= .type "list",data:= .seq #[]}:=uC _ rfl;rw[_,[_:hS:1],PySem.F.args_list_init_2 _ _];show Vu _ _ (do let old<-tu (.ref #[0,s]);oE (.ref #[0,s]) (λ_=> #[]);letGo old.toList.reverse;tW (.ref #[0,s]) (-I) .none) _ _ _
 refine A8 ?_;unfold tu;refine A8 (Uo hS rfl (uu ?_));show Vu _ _ (updateSeq #[0,s] (λ_=> #[])>>=λ_=>letGo (#[]:Array o6).toList.reverse>>=λ_=>tW (.ref #[0,s]) (-I) .none) _ _ _;refine A8 (wpAny_updateSeq hS rfl ?_);let ae:=T7 (Ge (λ_=>(#[]:Array o6))) hS rfl;let U:∀b o,s.heap.get? b=u_ o->((s.heap.push {cls:= .type "list",data:= .seq #[]}).update #[0,s] (Ge (λ_=>(#[]:Array o6)))).get? b=u_ o:=
  λb o e=>(vO _ _ (vZ (uD e))).trans (ug _ e)
 refine A8 (TR ?_);refine Dt (A:=A.in1) (items:=items) hh ad (aa.at λo e=>U I o e) (hl.at λo e=>U l o e) #[0,s] (vZ hI) (vZ hL) .none _ ae (λs' O c' hm af ac=>?_) hn;rw[Moved.eq_with hm];rw[1,hQ s'.heap s'.toks O c' (λb o hb e=>hm.heap b o (λm=>?_) (U b o e)) af ac];rcases Ab.mp m with e'|m
 .exact uM (uD e) e'
 .exact hb (Ac.mp m)
end
inductive Oi (K:PySem.W.Frag)(Q:VK)(v:V)(H1:Hp):Prop
 |mk (l:_)(ys:_)(_:v=-l)(_:SqL K H1 l ys)(_:∀t,H1 t=U_->Q (-t) (upd H1 t (.lst ys.reverse)))
abbrev SN (K:o0)(te:TE):TE:=λσ H Q=>te σ H λv H1=>Oi K Q v H1
section
variable {X:Cx}
def EO {x y:Str}{e:Expr}{te:TE}{p p2 pos cpos:Pos}(hc:X.calm=v_)(hg:Gl X x)(hm:X.mg x=U_)(hv:GH x=u_ (.type "list"))(ae:Gl X y)(af:X.mg y=U_)(ag:GH y=u_ (.type "reversed"))(hp:PE X e te)
  (hn:x≠"__name__") (ah:(x==("__debug__":Str))=Vt) (ak:y≠"__name__") (U:(y==("__debug__":Str))=Vt)
  (he:VA [.Call (.Name y p2) [e] [] cpos] X.env=(Vt,eval (.Call (.Name y p2) [e] [] cpos) X.env)::VA [] X.env) (al:(VL pos (VA [] X.env)).any (·.1)=Vt)
  (aa:VA [e] X.env=(Vt,eval e X.env)::VA [] X.env) (ac:(VL cpos (VA [] X.env)).any (·.1)=Vt):
  PE X (.Call (.Name x p) [.Call (.Name y p2) [e] [] cpos] [] pos) (SN X.K te):=by
 rw[2,Q,I,h];refine vH (x8 I hg hm hv ?_ hn ah);refine vf ?_ he al;rw[he];show Vu _ _ (HX ((Vt,eval (.Call (.Name y p2) [e] [] cpos) X.env)::VL pos (VA [] X.env))) _ _ s;refine vG ?_;refine vH (x8 I ae af ag ?_ ak U);refine vf ?_ aa ac;rw[aa];show Vu _ _ (HX ((Vt,eval e X.env)::VL cpos (VA [] X.env))) _ _ s;refine vG (thn (hp oq s σ H _ I h) λv s1 ⟨x1,H1,I1,r1,l,ys,ex,hl,q⟩=>Ub ?_);subst ex;rw[r1,0];erw[I1.list hl,its,rv,pl,hz];let au:=↑rv;refine Rr pl.isList (Ub ?_);let am:(s1.heap.push (HS l ((its.toArray.size:Int)-1))).IsRevIter #[0,s1] l ((its.toArray.size:Int)-1):=(_,uC _ rfl,1,1);let ao:(s1.heap.push (HS l ((its.toArray.size:Int)-1))).IsList l its.toArray:=pl.isList.at λo z=>ug _ z;let ap:l≠#[0,s1]:=let⟨_,z,_⟩:=pl.isList;uM (uD z);refine uQ (n:=1) I1.tk ?_;refine MP (s:={s1 with heap:=s1.heap.push (HS l ((its.toArray.size:Int)-1))}) (I1.ok.hd hc) ap am ao (by rw[uz];omega) λh' tk O c k1 k2 k3 htk=>?_
 let aw:O.size=↑its:=by have:=k3.1;simpa using this
 let k0:∀b u,s1.heap.get? b=u_ u->h'.get? b=u_ u:=λb u z=>k1 b u (uM (uD z)) (ug _ z);let hsz:#[0,s1]<=(s1.heap.push (HS l ((its.toArray.size:Int)-1))).objs.size:=by rw[vo];exact UO _
 refine(.ref _,_,I1.laid (t':=tk) (o:= .lst ys.reverse) (a:=(s1.heap.push (HS l ((its.toArray.size:Int)-1))).objs.size) k0 hsz (by rwa[vV],O.toList,c,?_,by rw[Array.toArray_toList];exact k2) htk,1,q _ (I1.hok.fresh hsz))
 refine wp (by rw[vV,vi (xs:=O)];omega) λj a v ha aq=>?_
 let hj:j<↑ys:=by
  have:=(Ah.mp ha).1
  rwa[vV] at this
 rw[List.getElem?_reverse hj] at ha;let ad:its.toArray[its.toArray.size-1-j]? =u_ v:=k3.2 j v (by rwa[<-Ui])
 let e6:its.toArray.size-1-j=↑ys-1-j:=by simp;omega
 rw[e6] at ad;erw[rv.get ha,u,eu,ru];have:its[↑ys-1-j]? =u_ v:=by simpa using ad
 rw[this,0] at eu;exact ru
inductive Aet (K:PySem.W.Frag)(Q:VK)(x:V)(y:V)(H3:Hp):Prop
 |mk (k:Int)(_:y= .int k)(_:k≠0)(a:_)(xs:_)(_:x=-a)(_:SqL K H3 a xs)(_:∀ys p,↑ys<=↑xs->(∀y>ys,y>xs)->H3 p=U_->Q (-p) (upd H3 p (.lst ys)))
abbrev AeT (K:o0)(te:TE)(tl:TO)(tf:TE):TE:=λσ H Q=>te σ H λx H1=>tl σ H1 λ_ H2=>tf σ H2 λy H3=>Aet K Q x y H3
def EN {e f:Expr}{te tf:TE}{lo:om Expr}{tl:TO}{pos p2}(he:PE X e te)(hl:PO X lo tl)(hf:PE X f tf)(U:tm (.Slice lo U_ (u_ f) p2) Vt=λv u=>Tl [v,u] (Gx v u)):PE X (.Subscript e (.Slice lo U_ (u_ f) p2) pos) (AeT X.K te tl tf):=by
 rw[2,Q,I,h];refine Te (thn (he oq s σ H _ I h) λv s1 zq=>?_);erw[zq,x,H1,I1,r1,q1];refine RX (thn (hl oq s1 σ H1 _ I1 q1) λvl s2 zq=>?_);erw[zq,lv,H2,I2,pl,q2];rw[Fm];refine uu ?_;rw[Rb];refine thn (hf oq s2 σ H2 _ I2 q2) λu O h3=>?_;erw[h3,y,H3,I3,r3,k,rfl,hk,a,xs,rfl,hH,q];erw[r3,tk,rfl];rw[r1,0];let I4:Inv X oq σ H3 {O with heap:=O.heap.push {cls:= .type "slice",data:= .fields #[vl,.none,.int k tk]}}:=I3.kept (t':=O.toks) λb ob q=>ug _ q
 erw[I4.list hH,its,r,aa,hz];let ac:its.toArray.size=↑xs:=by rw[uz];exact r.length.symm
 show Vu #[X,X] X.A (Tg e (.Slice lo U_ (u_ f) p2) (-a) (.ref #[0,O])) (EP X oq σ Q) X.xe {O with heap:=O.heap.push {cls:= .type "slice",data:= .fields #[vl,.none,.int k tk]}}
 refine Tz (ops:= [-a,.ref #[0,O]]) aa.isList.typeIs slot_list_getitem.lookup ?_ (by rw[U])
 refine Pg (st:=u_ k) aa.isList (Rk ..) pl .none (.int k tk) (by simpa using hk) ?_ (by rwa[ac])
 let hsz:=slicePick_size_le its.toArray lv U_ (u_ k);unfold Fz at hsz⊢;generalize sliceRange (GG lv U_ (u_ k) its.toArray.size).1 (GG lv U_ (u_ k) its.toArray.size).2.1 (GG lv U_ (u_ k) its.toArray.size).2.2=is at hsz⊢;let ep:is.filterMap (its.toArray[·]?)=is.filterMap (its[·]?):=by simp
 rw[ep] at hsz⊢;let vp:=wL r is;let ad:(is.filterMap (xs[·]?)).length<=↑xs:=by
  rw[↑vp];rwa[uz,uz,<-↑r] at hsz
 rw[_,.ref _,_,I4.laid (t':=O.toks) (o:= .lst (is.filterMap (xs[·]?))) (λb ob q=>ug _ q) (Vv _) (uP ad hz,_,(0),vp,uC _ rfl),1,q _ _ ad (λy hy=>?_) (I4.hok.fresh (Vv _))];erw[List.mem_filterMap.mp hy,i,_,hi,<-uL hi]
end
end L2
namespace L2
open PySem PyProof.Rows
abbrev cl {α β:Type}(t:α->β->TS)(a:α)(b:β):TS:=t a b
section
variable {α β:Type}{t u:α->β->TS}{c:α->β->TT}{wi:α->β->TI}{g:α->β->TG}{a:α}{b:β}{D:mV}{σ:St}{H:Hp}
def cl_i (h:let S:St:=σ;let D1:mV:=D;cl t a b D1 S H):t a b D σ H:=h
def seq_oC (h:let S:St:=σ;let D1:mV:=D;∀N:St->Hp->Prop,(∀O H',cl u a b D1 O H'->N O H')->let E:mV:={D1 with nx:=N};cl t a b E S H):cl (λx y=>nP (t x y) (u x y)) a b D σ H:=h (u a b D) λ_ _ h=>h
def seq_0 (h:let S:St:=σ;let D1:mV:=D;let E:mV:={D1 with nx:=cl u a b D1};cl t a b E S H):cl (λx y=>nP (t x y) (u x y)) a b D σ H:=h
def if_C (h:let S:St:=σ;let D1:mV:=D;c a b S H λk H1=>if k=v_ then cl t a b D1 S H1 else cl u a b D1 S H1):cl (λx y=>Af2 (c x y) (t x y) (u x y)) a b D σ H:=h
def while_C (h:let S:St:=σ;let D1:mV:=D;∃W:Nat->St->Hp->Prop,(∃m,W m S H)/\∀m σ H,W m σ H->
 c a b σ H λk H1=>if k=v_ then∃N:St->Hp->Prop,(∀O H',N O H'->∃U,U<m/\W U O H')/\cl t a b {D1 with nx:=N,ct:=N,bk:=D1.nx} σ H1 else D1.nx σ H1):cl (λx y=>Ov (c x y) (t x y)) a b D σ H:=h
def for_C (h:let S:St:=σ;let D1:mV:=D;wi a b S H λJ H1=>∃W:Nat->Nat->St->Hp->Prop,(∃m,W 0 m S H1)/\∀i m σ H,W i m σ H->
 (J.stop i H/\D1.nx σ H)\/(J.go i H/\∃N:St->Hp->Prop,(∀O H',N O H'->∃U,U<m/\W (i+1) U O H')/\∀x H',J.yld i H x H'->g a b x σ H' λσ2 H2=>cl t a b {D1 with nx:=N,ct:=N,bk:=D1.nx} σ2 H2)):cl (λx y=>Af3 (wi x y) (g x y) (t x y)) a b D σ H:=h
end
end L2
namespace L2
open PySem PySem.Spec PySem.W PyProof.Rows
variable {i:Nat}{v:V}{σ:St}{H:Hp}
def gN_ {Q:St->Hp->Prop}(h:Q (σ.set i (u_ v)) H):jG i v σ H Q:=h
end L2
namespace K20
open PySem L2 PyProof.Rows
inductive A5 (p0 p1 p2 p3 p4:Prop):Prop
 |mk (_:p0)(_:p1)(_:p2)(_:p3)(_:p4)
inductive E3 {t0 t1 t2:Type}(p:t0->t1->t2->Prop):Prop
 |mk (x0:t0)(x1:t1)(x2:t2)(h:p x0 x1 x2)
open Builtin.Int (intBits)
abbrev top (i:Nat):Stmt:=PySem.Challenge.pw_askwright_k20_answers_by_rounds.main.body.getD i (.Pass ((0),(0),(0),(0)))
nonrec abbrev Wy:Stmt:=top 17
nonrec abbrev zl:Stmt:=top 18
nonrec abbrev WH:Stmt:=top 19
nonrec abbrev wN:Stmt:=top 21
nonrec abbrev Yf:Stmt:=top 22
nonrec abbrev Xq:Stmt:=top 23
nonrec abbrev WE:Stmt:=top 29
nonrec abbrev Xz:Stmt:=top 30
nonrec abbrev wv:Stmt:=top 31
nonrec abbrev JM:Stmt:=top 32
nonrec abbrev Xm:Stmt:=top 33
nonrec abbrev Zb:Stmt:=top 34
nonrec abbrev w6:Stmt:=top 35
nonrec abbrev Xr:Stmt:=top 38
nonrec abbrev XD:Stmt:=top 39
nonrec abbrev Xt:Stmt:=top 40
nonrec abbrev Zx:Stmt:=top 41
nonrec abbrev zV:Stmt:=top 42
nonrec abbrev XS:Stmt:=top 43
nonrec abbrev xb:Stmt:=top 44
nonrec abbrev Xx:Stmt:=top 45
nonrec abbrev Xe:Stmt:=top 46
nonrec abbrev Zo:Stmt:=top 47
nonrec abbrev Xo:Stmt:=top 48
nonrec abbrev Y2:Stmt:=top 50
nonrec abbrev Yr:Stmt:=top 51
nonrec abbrev jo:Stmt:=Qm (top 52) 0
nonrec abbrev jO:Stmt:=Qm (top 52) 1
nonrec abbrev Yq:Stmt:=Qm (top 52) 2
nonrec abbrev Y4:Stmt:=Qm (top 52) 3
nonrec abbrev YK:Stmt:=Qm (top 52) 6
nonrec abbrev yh:Stmt:=Qm (top 52) 7
nonrec abbrev Yu:Stmt:=Qm (top 52) 8
nonrec abbrev jm:Stmt:=Qm (top 52) 9
nonrec abbrev Jv:Stmt:=Qm (top 54) 0
nonrec abbrev jV:Stmt:=Qm (top 54) 1
nonrec abbrev JC:Stmt:=Qm (top 54) 2
nonrec abbrev jp:Stmt:=Qm (top 54) 3
nonrec abbrev JZ:Stmt:=Qm (top 54) 4
nonrec abbrev JY:Stmt:=Qm (top 54) 5
nonrec abbrev Yg:Stmt:=Qm (top 55) 0
nonrec abbrev QV:Stmt:=Qm (top 55) 1
nonrec abbrev QS:Stmt:=Qm (top 55) 2
nonrec abbrev yI:Stmt:=Qm (top 55) 3
nonrec abbrev yq:Stmt:=Qm (top 55) 4
nonrec abbrev yp:Stmt:=Qm (top 55) 5
nonrec abbrev yF:Stmt:=Qm (top 55) 6
nonrec abbrev yK:Stmt:=Qm (top 55) 7
nonrec abbrev QX:Stmt:=Qm (top 55) 8
nonrec abbrev Ys:Stmt:=top 56
nonrec abbrev Xc:Stmt:=top 57
nonrec abbrev JP:Stmt:=top 58
nonrec abbrev jT:Stmt:=top 59
nonrec abbrev Jw:Stmt:=top 60
nonrec abbrev J6:Stmt:=top 61
nonrec abbrev XR:Stmt:=top 62
nonrec abbrev zQ:Stmt:=top 63
nonrec abbrev zR:Stmt:=top 64
nonrec abbrev zT:Stmt:=top 65
nonrec abbrev qaP:Stmt:=top 66
nonrec abbrev XG:Stmt:=top 69
nonrec abbrev Ym:Stmt:=Qm (top 70) 0
nonrec abbrev Ye:Stmt:=Qm (top 70) 1
nonrec abbrev yr:Stmt:=Qm (top 70) 2
nonrec abbrev QW:Stmt:=Qm (top 70) 3
nonrec abbrev jU:Stmt:=top 71
nonrec abbrev jK:Stmt:=top 73
nonrec abbrev W4:Stmt:=top 74
nonrec abbrev Zq:Stmt:=top 75
nonrec abbrev Zz:Stmt:=top 76
nonrec abbrev xo:Stmt:=top 77
nonrec abbrev xj:Stmt:=top 78
nonrec abbrev Xw:Stmt:=top 79
nonrec abbrev xl:Stmt:=top 80
nonrec abbrev J3:Stmt:=top 81
nonrec abbrev Y3:Stmt:=top 82
nonrec abbrev Zj:Stmt:=top 83
nonrec abbrev jW:Stmt:=top 84
nonrec abbrev Yw:Stmt:=top 85
nonrec abbrev yc:Stmt:=top 86
nonrec abbrev XA:Stmt:=top 87
nonrec abbrev YX:Stmt:=top 88
nonrec abbrev Q9:Stmt:=top 89
nonrec abbrev Jr:Stmt:=top 90
nonrec abbrev XO:Stmt:=top 91
nonrec abbrev jN:Stmt:=top 92
nonrec abbrev Yt:Stmt:=top 93
nonrec abbrev Aas:Stmt:=top 94
set_option genInjectivity false in
set_option genSizeOf false in
structure Ad where
 f_is_text:o3
 d_is_text:Vy
 f_is_tree:o3
 d_is_tree:Vy
 f_is_name:o3
 d_is_name:Vy
 f_is_pair:o3
 d_is_pair:Vy
 jI:o3
 jB:Vy
 Wv:o3
 wK:Vy
 f_part_of:o3
 d_part_of:Vy
 Wr:o3
 wJ:Vy
 f_row_of:o3
 d_row_of:Vy
 ZH:o3
 ZF:Vy
 WQ:o3
 WR:Vy
 Ku:o3
 k9:Vy
 f_is_rule:o3
 d_is_rule:Vy
 Xf:o3
 WD:Vy
 Xd:o3
 Wx:Vy
 XM:o3
 wO:Vy
 Zc:o3
 KL:Vy
 Zi:o3
 ku:Vy
 Xj:o3
 WN:Vy
 J4:o3
 ZA:Vy
 XN:o3
 WZ:Vy
 Xa:o3
 wy:Vy
 zX:o3
 KH:Vy
 Xy:o3
 wW:Vy
 JQ:o3
 JD:Vy
 Ji:o3
 Jd:Vy
 jh:o3
 xI:Vy
 X1:o3
 zD:Vy
 Jg:o3
 Jh:Vy
 JN:o3
 JA:Vy
 JI:o3
 JX:Vy
 YB:o3
 YA:Vy
 Je:o3
 Jk:Vy
 xZ:o3
 xV:Vy
 JT:o3
 Z6:Vy
 zJ:o3
 zj:Vy
 Z3:o3
 ZR:Vy
 xM:o3
 xR:Vy
 ZK:o3
 ZU:Vy
 Z2:o3
 Z0:Vy
 Yd:o3
 ju:Vy
 yO:o3
 yE:Vy
 yB:o3
 yN:Vy
 Y8:o3
 je:Vy
 YM:o3
 YR:Vy
 YV:o3
 YZ:Vy
 jc:o3
 jf:Vy
 Y9:o3
 ja:Vy
 yD:o3
 yH:Vy
 Jj:o3
 Jf:Vy
 w9:o3
 WK:Vy
 ZW:o3
 Z4:Vy
 ze:o3
 XU:Vy
 ZP:o3
 ZM:Vy
 Z5:o3
 ZG:Vy
 Wl:o3
 wS:Vy
 kA:o3
 Ks:Vy
 Kr:o3
 Kb:Vy
 kO:o3
 KB:Vy
 f_met_by:o3
 d_met_by:Vy
 Wf:o3
 wM:Vy
 ji:o3
 xT:Vy
 jw:o3
 js:Vy
 YY:o3
 YU:Vy
 YL:o3
 YT:Vy
 zm:o3
 X9:Vy
 zt:o3
 zo:Vy
 f_law_pot:o3
 d_law_pot:Vy
 Kl:o3
 Kt:Vy
 kQ:o3
 Kh:Vy
 kG:o3
 Kg:Vy
 Kn:o3
 kY:Vy
 Wu:o3
 Wp:Vy
 Kv:o3
 kD:Vy
 ZE:o3
 Z7:Vy
 Jx:o3
 xf:Vy
 kS:o3
 Kc:Vy
 zw:o3
 zx:Vy
 Ja:o3
 Jl:Vy
 jt:o3
 jE:Vy
 wP:o3
 Ww:Vy
 JH:o3
 Js:Vy
 JL:o3
 JG:Vy
 ZL:o3
 ZB:Vy
 w8:o3
 WU:Vy
 X8:o3
 zN:Vy
 j9:o3
 Jb:Vy
 f_law:o3
 d_law:Vy
 qm:o3
 qO:o3
 qq:o3
 qI:o3
structure Tx (K:o0)(mg:Str->om o6)(a:Ad):Prop where
 mZ:FF K mg "is_text" Wy ["value"] a.f_is_text a.d_is_text
 lm:FF K mg "is_tree" zl ["value"] a.f_is_tree a.d_is_tree
 iV:FF K mg "is_name" WH ["value"] a.f_is_name a.d_is_name
 nU:FF K mg "is_pair" wN ["value"] a.f_is_pair a.d_is_pair
 lP:FF K mg "is_row_of_names" Yf ["tree"] a.jI a.jB
 nh:FF K mg "is_answer" Xq ["ask","answer"] a.Wv a.wK
 nT:FF K mg "part_of" WE ["kind","piece","count"] a.f_part_of a.d_part_of
 m8:FF K mg "pieces_of" Xz ["line","form"] a.Wr a.wJ
 AD:FF K mg "row_of" wv ["line","count"] a.f_row_of a.d_row_of
 md:FF K mg "read_lines" JM ["value"] a.ZH a.ZF
 m7:FF K mg "rule_rows" Xm ["tree"] a.WQ a.WR
 nO:FF K mg "bad_line" Zb ["tree"] a.Ku a.k9
 m6:FF K mg "is_rule" w6 ["value"] a.f_is_rule a.d_is_rule
 lH:FF K mg "text_made" Xr #[11] a.Xf a.WD
 lJ:FF K mg "self_made" XD #[11] a.Xd a.Wx
 lR:FF K mg "copy_made" Xt #[11] a.XM a.wO
 l8:FF K mg "row_made" Zx #[11] a.Zc a.KL
 me:FF K mg "put_made" zV #[11] a.Zi a.ku
 lO:FF K mg "join_made" XS #[11] a.Xj a.WN
 li:FF K mg "first_made" xb #[11] a.J4 a.ZA
 lK:FF K mg "rest_made" Xx #[11] a.XN a.WZ
 lI:FF K mg "size_made" Xe #[11] a.Xa a.wy
 mh:FF K mg "cut_made" Zo #[11] a.zX a.KH
 lQ:FF K mg "glue_made" Xo #[11] a.Xy a.wW
 mn:FF K mg "is_jump_taken" Y2 ["boxes","word","parts"] a.JQ a.JD
 lX:FF K mg "asked_or_fault" Yr ["word","held"] a.Ji a.Jd
 lr:FM K a.qm "__init__" "Machine.__init__" jo ["self","rule","own"] a.jh a.xI
 iw:FM K a.qm "now" "Machine.now" jO ["self"] a.X1 a.zD
 iE:FM K a.qm "answer" "Machine.answer" Yq ["self","tree"] a.Jg a.Jh
 iM:FM K a.qm "asked" "Machine.asked" Y4 ["self"] a.JN a.JA
 iZ:FM K a.qm "go_on" "Machine.go_on" YK ["self"] a.JI a.JX
 io:FM K a.qm "is_waiting" "Machine.is_waiting" yh ["self"] a.YB a.YA
 lZ:FM K a.qm "do_row" "Machine.do_row" Yu ["self","row"] a.Je a.Jk
 mz:FM K a.qm "hold" "Machine.hold" jm ["self","box","tree"] a.xZ a.xV
 mT:FM K a.qO "__init__" "Going.__init__" Jv ["self","name","source","order"] a.JT a.Z6
 lU:FM K a.qO "begin" "Going.begin" jV ["self","rule"] a.zJ a.zj
 mi:FM K a.qO "look" "Going.look" JC ["self"] a.Z3 a.ZR
 mB:FM K a.qO "wanted" "Going.wanted" jp ["self"] a.xM a.xR
 lj:FM K a.qO "take" "Going.take" JZ ["self","answer"] a.ZK a.ZU
 mU:FM K a.qO "full" "Going.full" JY ["self"] a.Z2 a.Z0
 lS:FM K a.qq "__init__" "PlainOrder.__init__" Yg ["self","project"] a.Yd a.ju
 iQ:FM K a.qq "begin_anew" "PlainOrder.begin_anew" QV ["self","project"] a.yO a.yE
 iP:FM K a.qq "go_through" "PlainOrder.go_through" QS ["self","name"] a.yB a.yN
 iN:FM K a.qq "enter" "PlainOrder.enter" yI ["self","name"] a.Y8 a.je
 kw:FM K a.qq "settle" "PlainOrder.settle" yq ["self","going"] a.YM a.YR
 ky:FM K a.qq "runner" "PlainOrder.runner" yp ["self","rule","own"] a.YV a.YZ
 lp:FM K a.qq "leave" "PlainOrder.leave" yF ["self","going"] a.jc a.jf
 lq:FM K a.qq "go_on" "PlainOrder.go_on" yK ["self","going"] a.Y9 a.ja
 ik:FM K a.qq "answer_yet" "PlainOrder.answer_yet" QX ["self","name"] a.yD a.yH
 lY:FF K mg "answer_at_once" Ys ["source"] a.Jj a.Jf
 ni:FF K mg "answer_by" Xc ["end"] a.w9 a.WK
 mS:FF K mg "check_name" JP ["name"] a.ZW a.Z4
 mI:FF K mg "check_names" jT ["names"] a.ze a.XU
 iR:FF K mg "order_from" Jw ["project","name"] a.ZP a.ZM
 mQ:FF K mg "order_over" J6 ["project","names"] a.Z5 a.ZG
 iO:FF K mg "answer_of" XR ["project","name"] a.Wl a.wS
 nI:FF K mg "full_run" zQ ["project","name"] a.kA a.Ks
 mJ:FF K mg "value_of" zR ["project","name"] a.Kr a.Kb
 nN:FF K mg "chain_of" zT ["project","name"] a.kO a.KB
 AE:FF K mg "met_by" qaP ["project","name"] a.f_met_by a.d_met_by
 nc:FF K mg "is_source" XG ["value"] a.Wf a.wM
 iD:FM K a.qI "__init__" "Project.__init__" Ym ["self","sources"] a.ji a.xT
 iS:FM K a.qI "sources" "Project.sources" Ye ["self"] a.jw a.js
 iJ:FM K a.qI "source_of" "Project.source_of" yr ["self","name"] a.YY a.YU
 jS:FM K a.qI "looked_up" "Project.looked_up" QW ["self","ask"] a.YL a.YT
 mD:FF K mg "longest_row" jU ["names"] a.zm a.X9
 iK:FF K mg "_law_cell_at" jK ["script","k"] a.zt a.zo
 mY:FF K mg "_law_pot" W4 ["cell","salt"] a.f_law_pot a.d_law_pot
 ig:FF K mg "_law_take" Zq ["pot","many"] a.Kl a.Kt
 iq:FF K mg "_law_word" Zz ["pot","names"] a.kQ a.Kh
 nz:FF K mg "_law_line" xo ["pot","names","many","k"] a.kG a.Kg
 mK:FF K mg "_law_rule" xj ["pot","names"] a.Kn a.kY
 m9:FF K mg "_law_maker" Xw ["pot","names"] a.Wu a.Wp
 mL:FF K mg "_law_leaf" xl ["pot","names"] a.Kv a.kD
 mR:FF K mg "_law_source" J3 ["pot","names"] a.ZE a.Z7
 iY:FF K mg "_law_all_names" Y3 ["script"] a.Jx a.xf
 ny:FF K mg "_law_link" Zj ["pot","names","k"] a.kS a.Kc
 mF:FF K mg "_law_sources" jW ["script"] a.zw a.zx
 lV:FF K mg "_law_wide_names" Yw ["script"] a.Ja a.Jl
 lL:FF K mg "_law_drawn_names" yc ["script","salt","many"] a.jt a.jE
 mw:FF K mg "_law_tried" XA ["sources","name","values"] a.wP a.Ww
 mj:FF K mg "_law_looked_up" YX ["sources","kind","text"] a.JH a.Js
 ml:FF K mg "_law_by_rounds" Q9 ["sources"] a.JL a.JG
 mf:FF K mg "_law_answer" Jr ["sources","runs","name"] a.ZL a.ZB
 lN:FF K mg "_law_asked" XO ["project","which","name"] a.w8 a.WU
 mG:FF K mg "_law_refused" jN ["project","which","name"] a.X8 a.zN
 lW:FF K mg "_law_loop_right" Yt ["cell"] a.j9 a.Jb
 CW:FF K mg "law" Aas ["script"] a.f_law a.d_law
 qt:Cls K a.qm
 M_Machine:Mk K a.qm a.jh
 m_Machine:mg "Machine"=u_ (-a.qm)
 Yj:QQ K a.qm "rows"
 kl:QQ K a.qm "rule"
 zL:QQ K a.qm "own"
 Qz:QQ K a.qm "boxes"
 Qo:QQ K a.qm "place"
 yi:QQ K a.qm "done"
 Y0:QQ K a.qm "given"
 qP:QQ K a.qm "there"
 qT:Cls K a.qO
 M_Going:Mk K a.qO a.JT
 m_Going:mg "Going"=u_ (-a.qO)
 Yn:QQ K a.qO "name"
 X5:QQ K a.qO "order"
 yC:QQ K a.qO "made_by"
 y7:QQ K a.qO "rule_asks"
 qZ:QQ K a.qO "rule_run"
 Q4:QQ K a.qO "end"
 qz:Cls K a.qq
 M_PlainOrder:Mk K a.qq a.Yd
 m_PlainOrder:mg "PlainOrder"=u_ (-a.qq)
 Qi:QQ K a.qq "given_project"
 QF:QQ K a.qq "stack"
 QB:QQ K a.qq "under_way"
 yY:QQ K a.qq "full_runs"
 QG:QQ K a.qq "found"
 yR:Cls K a.qI
 zg:Mk K a.qI a.ji
 zn:mg "Project"=u_ (-a.qI)
 QP:QQ K a.qI "by_name"
 m_MOST_SIGNS:∃t,mg "MOST_SIGNS"=u_ (.int 300 t)
 m_MOST_PARTS:∃t,mg "MOST_PARTS"=u_ (.int 40 t)
 m_MOST_SIZE:∃t,mg "MOST_SIZE"=u_ (.int 600 t)
 m_MOST_DEPTH:∃t,mg "MOST_DEPTH"=u_ (.int 12 t)
 Zd:∃t,mg "MOST_NAME_SIGNS"=u_ (.int 24 t)
 m_LETTERS:∃t,mg "LETTERS"=u_ (.str "abcdefghijklmnopqrstuvwxyz" t)
 m_NAME_SIGNS:∃t,mg "NAME_SIGNS"=u_ (.str "abcdefghijklmnopqrstuvwxyz0123456789./" t)
 m_PERCENT:∃t,mg "PERCENT"=u_ (.int 37 t)
 m_MOST_LINES:∃t,mg "MOST_LINES"=u_ (.int 40 t)
 m_MOST_DONE:∃t,mg "MOST_DONE"=u_ (.int 300 t)
 m_MOST_NAMES:∃t,mg "MOST_NAMES"=u_ (.int 60 t)
 z_ord:mg "ord"=U_
 yt:mg "len"=U_
 qR:mg "isinstance"=U_
 zB:mg "str"=U_
 QI:mg "tuple"=U_
 z_all:mg "all"=U_
 z_int:mg "int"=U_
 jX:mg "range"=U_
 z_zip:mg "zip"=U_
 z_dict:mg "dict"=U_
 qaz:mg "sorted"=U_
 z_abs:mg "abs"=U_
 z_min:mg "min"=U_
 z_sum:mg "sum"=U_
 z_max:mg "max"=U_
 kL:mg "reversed"=U_
 z_list:mg "list"=U_
 z_ValueError:mg "ValueError"=U_
def kI:qv ["value","sign"] ["value"] (ql Wy):=()
def yz:qv ["value","size","waiting","pair","part","depth"] ["value"] (ql zl):=()
def Dq:qv ["value"] ["value"] (ql WH):=()
def Dp:qv ["value"] ["value"] (ql wN):=()
def X3:qv ["tree"] ["tree"] (ql Yf):=()
def sL:qv ["ask","answer"] ["ask","answer"] (ql Xq):=()
def kX:qv ["kind","piece","count","numbers"] ["kind","piece","count"] (ql WE):=()
def sH:qv ["line","form"] ["line","form"] (ql Xz):=()
def JO:qv ["line","count","word","form","pieces","parts"] ["line","count"] (ql wv):=()
def YC:qv ["value","rows","line","row"] ["value"] (ql JM):=()
def ZX:qv ["tree","read"] ["tree"] (ql Xm):=()
def Bj:qv ["tree"] ["tree"] (ql Zb):=()
def Do:qv ["value"] ["value"] (ql w6):=()
def sB:qv #[11] #[11] (ql Xr):=()
def sE:qv #[11] #[11] (ql XD):=()
def sM:qv #[11] #[11] (ql Xt):=()
def Bi:qv #[11] #[11] (ql Zx):=()
def Wj:qv ["boxes","own","parts","row"] #[11] (ql zV):=()
def JE:qv ["boxes","own","parts","one","other"] #[11] (ql XS):=()
def zc:qv ["boxes","own","parts","whole"] #[11] (ql xb):=()
def ZQ:qv ["boxes","own","parts","whole"] #[11] (ql Xx):=()
def sD:qv #[11] #[11] (ql Xe):=()
def Xk:qv ["boxes","own","parts","whole","between"] #[11] (ql Zo):=()
def J9:qv ["boxes","own","parts","row","between"] #[11] (ql Xo):=()
def wc:qv ["boxes","word","parts"] ["boxes","word","parts"] (ql Y2):=()
def Zs:qv ["word","held"] ["word","held"] (ql Yr):=()
def Wi:qv ["self","rule","own"] ["self","rule","own"] (ql jo):=()
def kc:qv ["self"] ["self"] (ql jO):=()
def jy:qv ["self","tree","ask"] ["self","tree"] (ql Yq):=()
def Z9:qv ["self"] ["self"] (ql Y4):=()
def wn:qv ["self"] ["self"] (ql YK):=()
def JV:qv ["self"] ["self"] (ql yh):=()
def Yb:qv ["self","row","word","parts"] ["self","row"] (ql Yu):=()
def W6:qv ["self","box","tree"] ["self","box","tree"] (ql jm):=()
def qaU:qv ["self","name","source","order"] ["self","name","source","order"] (ql Jv):=()
def kj:qv ["self","rule"] ["self","rule"] (ql jV):=()
def KW:qv ["self"] ["self"] (ql JC):=()
def wI:qv ["self"] ["self"] (ql jp):=()
def qaB:qv ["self","answer"] ["self","answer"] (ql JZ):=()
def zi:qv ["self","asks"] ["self"] (ql JY):=()
def X4:qv ["self","project"] ["self","project"] (ql Yg):=()
def jD:qv ["self","project"] ["self","project"] (ql QV):=()
def QM:qv ["self","name","top","missing"] ["self","name"] (ql QS):=()
def Xn:qv ["self","name"] ["self","name"] (ql yI):=()
def xD:qv ["self","going"] ["self","going"] (ql yq):=()
def xG:qv ["self","rule","own"] ["self","rule","own"] (ql yp):=()
def XB:qv ["self","going"] ["self","going"] (ql yF):=()
def yw:qv ["self","going","ask","answer"] ["self","going"] (ql yK):=()
def yx:qv ["self","name","at_once"] ["self","name"] (ql QX):=()
def zU:qv ["source"] ["source"] (ql Ys):=()
def sO:qv ["end"] ["end"] (ql Xc):=()
def qaV:qv ["name"] ["name"] (ql JP):=()
def xN:qv ["names","name"] ["names"] (ql jT):=()
def KR:qv ["project","name"] ["project","name"] (ql Jw):=()
def jM:qv ["project","names","order","name"] ["project","names"] (ql J6):=()
def sN:qv ["project","name"] ["project","name"] (ql XR):=()
def Wb:qv ["project","name","order"] ["project","name"] (ql zQ):=()
def WC:qv ["project","name","answer"] ["project","name"] (ql zR):=()
def Wg:qv ["project","name","order","answer","names","after"] ["project","name"] (ql zT):=()
def Ew:qv ["project","name"] ["project","name"] (ql qaP):=()
def sK:qv ["value"] ["value"] (ql XG):=()
def yP:qv ["self","sources","by_name","name","source"] ["self","sources"] (ql Ym):=()
def zK:qv ["self"] ["self"] (ql Ye):=()
def xB:qv ["self","name"] ["self","name"] (ql yr):=()
def xF:qv ["self","ask"] ["self","ask"] (ql QW):=()
def Yl:qv ["names","row","name"] ["names"] (ql jU):=()
def kf:qv ["script","k"] ["script","k"] (ql jK):=()
def YG:qv ["cell","salt","step","big","k"] ["cell","salt"] (ql W4):=()
def WW:qv ["pot","many","digit"] ["pot","many"] (ql Zq):=()
def wZ:qv ["pot","names","some"] ["pot","names"] (ql Zz):=()
def yn:qv ["pot","names","many","k","words","word","one","two","three","at"] ["pot","names","many","k"] (ql xo):=()
def jQ:qv ["pot","names","body","many","lines"] ["pot","names"] (ql xj):=()
def jd:qv ["pot","names","asked","lines"] ["pot","names"] (ql Xw):=()
def WY:qv ["pot","names","kind"] ["pot","names"] (ql xl):=()
def XY:qv ["pot","names","kind"] ["pot","names"] (ql J3):=()
def Yx:qv ["script","first","names"] ["script"] (ql Y3):=()
def WA:qv ["pot","names","k","other"] ["pot","names","k"] (ql Zj):=()
def Q2:qv ["script","names","pairs","k","cell","pot"] ["script"] (ql jW):=()
def jA:qv ["script","names"] ["script"] (ql Yw):=()
def yJ:qv ["script","salt","many","pot","names"] ["script","salt","many"] (ql yc):=()
def QE:qv ["sources","name","values","source","rule","asks","machine","kind","text"] ["sources","name","values"] (ql XA):=()
def yl:qv ["sources","kind","text","row","name"] ["sources","kind","text"] (ql YX):=()
def qS:qv ["sources","values","name","waiting","grown","run","runs"] ["sources"] (ql Q9):=()
def XX:qv ["sources","runs","name","end"] ["sources","runs","name"] (ql Jr):=()
def sJ:qv ["project","which","name"] ["project","which","name"] (ql XO):=()
def Yk:qv ["project","which","name","error","e"] ["project","which","name"] (ql jN):=()
def Qf:qv ["cell","many","lines","last","sources","due"] ["cell"] (ql Yt):=()
def YW:qv ["script","pairs","sources","project","runs","names","turn","name","due","tree","odd","which"] ["script"] (ql Aas):=()
structure Ga where
 (boxes asking forms makers br bn bt nt we:o3)
abbrev Aep:oj Str:= ["ask","has","names","go","like","rowed","none","say","fault"]
structure Fx (K:o0)(w:og)(mg:Str->om o6)(g:Ga)(a:Ad):Prop where
 m_BOXES:mg "BOXES"=u_ (-g.boxes)
 m_ASKING:mg "ASKING"=u_ (-g.asking)
 m_FORMS:mg "FORMS"=u_ (-g.forms)
 m_MAKERS:mg "MAKERS"=u_ (-g.makers)
 boxes:∀H,SqT K H g.boxes (BX.map V.str)
 asking:∀H,SqT K H g.asking [-"ask",-"has",-"names"]
 kd:Md K w g.forms
 forms:∀x>FRM,∃q,PySem.W.nsIn K g.forms x.1=u_ (u_ (-q))/\∀H,SqT K H q (x.2.map λk=>V.str k.t)
 km:Md K w g.makers
 k_text:PySem.W.nsIn K g.makers "text"=u_ (u_ (-a.Xf))
 k_self:PySem.W.nsIn K g.makers "self"=u_ (u_ (-a.Xd))
 k_copy:PySem.W.nsIn K g.makers "copy"=u_ (u_ (-a.XM))
 k_row:PySem.W.nsIn K g.makers "row"=u_ (u_ (-a.Zc))
 k_put:PySem.W.nsIn K g.makers "put"=u_ (u_ (-a.Zi))
 k_join:PySem.W.nsIn K g.makers "join"=u_ (u_ (-a.Xj))
 k_first:PySem.W.nsIn K g.makers "first"=u_ (u_ (-a.J4))
 k_rest:PySem.W.nsIn K g.makers "rest"=u_ (u_ (-a.XN))
 k_size:PySem.W.nsIn K g.makers "size"=u_ (u_ (-a.Xa))
 k_cut:PySem.W.nsIn K g.makers "cut"=u_ (u_ (-a.zX))
 k_glue:PySem.W.nsIn K g.makers "glue"=u_ (u_ (-a.Xy))
 k_no:∀z>Aep,PySem.W.nsIn K g.makers z=u_ U_
 none_:∀z,xS z=U_->PySem.W.nsIn K g.forms z=u_ U_
 m_BadRule:mg "BadRule"=u_ (-g.br)
 x_BadRule:PySem.W.excIn K g.br VE "ValueError.__new__"=v_
 wV:mg "BadName"=u_ (-g.bn)
 x_BadName:PySem.W.excIn K g.bn VE "ValueError.__new__"=v_
 m_NoThing:mg "NoThing"=u_ (-g.nt)
 x_NoThing:PySem.W.excIn K g.nt VE "ValueError.__new__"=v_
 m_BadThing:mg "BadThing"=u_ (-g.bt)
 qae:mg "WrightError"=u_ (-g.we)
 ew:PySem.W.exmOne K (-g.bn) (-g.we)=u_ v_
 xc:AwV.xH K g.bn
 ve:PySem.W.kitOne K (-g.bn) (.type "ValueError")=u_ v_
 ot:PySem.W.kitAny K (-g.bn) [-g.br,-g.bt,-g.nt]=u_ Vt
variable {n:Nat}
def yA (h:n<=1000):n<=sizeLine:=vB (zE h)
def sml (h:Nat.ble n 1000=v_):n<=sizeLine:=yA (Nat.le_of_ble_eq_true h)
def nj (h:n<=16000000):n<=sizeLine:=by rw[uF];omega
def jY {α:Type}{xs:oj α}{i:Int}{c:α}(h:atI xs i=u_ c):c>xs:=by
 unfold atI at h;erw[Option.bind_eq_some_iff.mp h,j,_,e,<-uL e]
variable {z:Str}
def BA (h:300<↑z):Qt z=false:=by
 unfold Qt;rw[ub ()]
 rfl
abbrev NL:D->Bool
 | .str z=>Qt z|_=>Vt
inductive Kw:Sp
 |mk (v:_)(d:_)(_:vs= [v])(_:Is H d v)(_:Q (.bl (NL d)) H)
inductive k8:Sp
 |mk (v:_)(d:_)(_:vs= [v])(_:Is H d v)(_:∀H',ie H H'->Q (.bl (isT d)) H')
abbrev pr (p:D×Nat):D:=-[p.1,.int (p.2:Int)]
variable {i c:Nat}
def DC (h:z.cps[i]? =u_ c)(O:QD c=Vt):Qt z=false:=by
 unfold Qt;let hm:c>z.cps.toList:=by
  have:z.cps.toList[i]? =u_ c:=by simpa using h
  exact uL this
 have:z.cps.toList.all QD=false:=by
  rw[List.all_eq_false];exact⟨c,hm,by rw[O];exact uh⟩
 rw[this,F_]
section
variable {P:o9}{w:og}{K:o0}{mg:Str->om o6}{base:o8}{a:Ad}
def KA:#[T,1,a.f_is_text,a.d_is_text,["value"],Kw]:=by
 rw[9,T.mZ,kI]
 erw[h,v,d,rfl,hv,k];rw[3,%[@qK _ _ _ _ _ _ _ _ #[wb,#[Qv,#[Qh,#[qw,#[Qb,2,rfl],T.qR,uW,#v[pv 0,#[Q6,.ty "str",T.zB,V2]]]]],#[xY,#[qo,qax,#[qw,JR,T.yt,uK,#v[pv 0]],#[qaa,T.m_MOST_SIGNS]]]].pt %[|#[qp,jC]] qu,#[YH,#[OM,4,pv 0],#[qW,(1),kI.nd],%[|@qK _ _ _ _ _ _ _ _ #[wb,#[qo,EW,pv 1,qh],#[wb,#[qo,EZ,pv 1,qh],#[xY,#[qo,Qn,#[qw,Oe,T.z_ord,boot_ord,#v[pv 1]],#[qaa,T.m_PERCENT]]]]].pt %[|#[qp,jC]] qu]]|#[qp,jC]]]
 rw[0,v,"str",tyD d,isStr d,1,hv.ty,j0 d,0];cases d with
 |str z=>
  erw[hv,rfl,hz];refine iX ?_
  rw[0,z,1,hz,_,0,1,0];refine lz (λc=>?_) (λc=>?_)
  .let c':(300:Int)<(↑z:Int):=uq c;let e:NL (!z)=false:=BA ()
   rwa[e] at k
  .let c':¬(300:Int)<(↑z:Int):=λq=>c (ua q)
   rw[0,z,1]
   refine_lift let J1_:Nat->L2.St->Hp->Prop:=λi σ H'=>(∃x,σ= [u_ (!z),x])/\H'=H/\(z.cps.toList.take i).all QD=v_;?_
   refine AbL J1_ [⟨0⟩:1:1] ?_ ?_
   .rintro i c σ H' hc ⟨⟨x,rfl⟩,rfl,O⟩;let U:QD c=Vt->Q (.bl Vt) H':=λe=>by
     let e':NL (!z)=false:=DC hc e;rwa[e'] at k
    rw[0,_,0,1,0];rw[show decide ((⟨#[c]⟩:Str).cps.toList<(" ":Str).cps.toList)=decide (c<32) from AdH c 32]
    refine lz (λc1=>?_) (λc1=>?_)
    .refine lG (U ?_);have:=uq c1;unfold QD;rw[ub ()]
     rfl
    .let ac:¬c<32:=λq=>c1 (ua q)
     rw[0,_,0,1,0];rw[show decide (("~":Str).cps.toList<(⟨#[c]⟩:Str).cps.toList)=decide (126<c) from Adr c 126]
     refine lz (λc2=>?_) (λc2=>?_)
     .refine lG (U ?_);have:=uq c2;unfold QD;rw[ub (p:=c<=126) (),F_]
      rfl
     .have ad:¬126<c:=λq=>c2 (ua q)
      rw[0,0,1,1,0];refine lz (λc3=>?_) (λc3=>?_)
      .have aa:c=37:=by
        have:=uq c3;have:=V.int.inj this;exact O7 this
       exact U (by subst aa;rfl)
      .have aa:c≠37:=λq=>c3 (ua (by rw[q];rfl))
       rw[_,⟨0⟩,1];rw[vk,show z.cps.toList[i]? =u_ c by simpa using hc,Vh,O]
       show(v_&&(QD c&&v_))=v_;unfold QD;rw[ua (),ua (p:=c<=126) (),ua aa]
       rfl
   .rintro σ H' ⟨⟨x,rfl⟩,rfl,O⟩;let e:NL (!z)=true:=by
     show Qt z=v_;unfold Qt;rw[vj (by simp)] at O
     rw[O,ua ()]
     rfl
    rwa[e] at k
 |_=>exact lG (lG k)
def CF {α β:Type}(f:α->β)(xs:oj α)(x:α):(xs++ [x]).map f=xs.map f++ [f x]:=by simp
def Abz {α:Type}(us:oj α)(x:α):(us++ [x])[↑(us++ [x])-1]? =u_ x:=by simp
def LC {α:Type}(us:oj α)(x:α):(us++ [x]).dropLast=us:=by simp
abbrev Wt (v:V)(d:D)(H:Hp)(L:o3)(m:Nat)(σ:L2.St)(H':Hp):Prop:=
 ∃(n:Nat) (w:oj (D×Nat)) (ws:oj V) (x3 x4 x5:om V),σ= [u_ v,u_ (.int n),u_ (-L),x3,x4,x5]/\ie H H'/\H' L=u_ (.lst ws)/\IsL H' (w.map pr) ws/\G w n=isT d/\n<=600/\↑w<=1+40*n/\m=ndL (w.map (·.1))
def jF:#[T,2,a.f_is_tree,a.d_is_tree,["value"],k8]:=by
 let W0:=#[KA,T];refine T.lm.F.ok yz () (λ_ _ _ _ H vs Q E hr h=>?_)
 erw[h,v,d,rfl,hv,k];rw[3,%[#[qy,(1),yz.nd,qj],#[qy,(2),yz.nd,#[QN,#v[#[qE,#v[pv 0,qj]]]]],#[xg,#[Co,3,pv 2,(λ_=>rfl)],%[#[qy,(3),yz.nd,#[ON,9,vh,PySem.F.slot_list_pop,PySem.F.type_list_pop,OY,pv 2,_,_]],#[qy,(4),yz.nd,#[qL,qJ,pv 3,qj]],#[qy,2,(5),4,yz.nd,rfl,GL rfl,#[qL,qJ,pv 3,qj],_,_],@qK _ _ _ _ _ _ _ _ #[zq,#[Qh,#[qw,#[Qb,2,rfl],T.qR,uW,#v[pv 4,#[Q6,.ty "tuple",T.QI,vx]]]],#[J0,#[qo,EX,#[qw,qaE,T.yt,uK,#v[pv 4]],#[qaa,T.m_MOST_PARTS]]]].pt %[#[OK,2,(1),6,yz.nd,rfl,Hs rfl,qj,Sg,_]|#[Qe,#[Jm,vh,PySem.F.slot_list_extend,PySem.F.type_list_extend,An,pv 2,#v[#[zW,["below","depth"],[5],Mf (ql zl) ["value","size","waiting","pair","part","depth"],#[KM,4,pv 4],(λ_ _ _ _ _ _=>#[qW,(0),(show VZ (["below","depth"]:oj Str) by rw[12])]),(λ_ _ _ _ _ _=>#[qE,#v[pv 0,#[qV,yy,pv 1,qj]]])]]]]] %[|#[qK,#[Qh,#[qr,W0,#[20],T.mZ,qG,#v[pv 4]]],%[|#[OK,2,(1),6,yz.nd,rfl,Hs rfl,#[qV,yy,qj,#[qw,qaE,T.yt,uK,#v[pv 4]]],Sg,_]],%[|#[qp,jC]]]]|@qK _ _ _ _ _ _ _ _ #[wb,#[qo,qax,pv 5,#[qaa,T.m_MOST_DEPTH]],#[xY,#[qo,qax,pv 1,#[qaa,T.m_MOST_SIZE]]]].pt %[|#[qp,jC]] qu]]|#[qp,jC]]]
 let no:∀{H':Hp}{w:oj (D×Nat)}{n:Nat},ie H H'->G w n=isT d->G w n=Vt->Q (.bl Vt) H':=λ{H' w n} sm e1 e2=>by
  let q:=k H' sm;rwa[<-e1,e2] at q
 rw[0,(sml rfl),λt1 h1=>[(sml rfl):λL hL=>?_]];let s1:ie H (upd H t1 (-[v,.int 1])):=qf h1 _;let s2:ie H (upd (upd H t1 (-[v,.int 1])) L (.lst [-t1])):=s1.trans (qf hL _);let ak:H L=none:=s1.free hL;let i1:Is (upd H t1 (-[v,.int 1])) (pr (d,1)) (-t1):=Is.new (ds:= [d,.int 1]) (v,0,hv,_,0,1,1) h1
 rw[_,Wt v d H L,(_,(0),[(d,1)],[-t1],U_,U_,U_,1,s2,qg,IsL.one (i1.mono (qf hL _).tk),Acf d,(),by simp,1)]
 rintro m σ H' ⟨n,w,ws,x3,x4,x5,rfl,sm,hl,hw,hG,hn,ao,rfl⟩
 rw[0,!(ws.isEmpty),.inl [ws:SqL.of hl:1]];rcases rJ w with rfl|⟨w',⟨e,j⟩,rfl⟩
 .rw[show ws= [] from hw,0]
  refine iX ?_;let q:=k H' sm;rwa[<-hG,AfW hn] at q
 .rw[Ry] at*;rw[CF] at hw;erw[hw.unsnoc,us,x,rfl,hu,hx];let ne:(!(us++ [x]).isEmpty)=true:=by simp
  rw[ne];refine lG ⟨λσ' ap=>∃m',m'<ndL ((w'++ [(e,j)]).map (·.1))/\Wt v d H L m' σ' ap,λ_ _ h=>h,?_⟩;let hm:ndL ((w'++ [(e,j)]).map (·.1))=ndL (w'.map (·.1))+nd e:=by
   rw[CF,Zr];simp[ndL]
  let au:↑w'<=40*n:=by
   rw[uE,Uh] at ao;omega
  let lu:=↑hu;rw[uc] at lu
  rw[0,.inl [1:_:SqL.of hl],L,_,x,1,1,hl,Abz us x];rw[LC];let t2:Tk H' (upd H' L (.lst us)):=Tk.updL hl;let O:ie H (upd H' L (.lst us)):=λb o z=>by rw[qk (qi z ak)];exact sm b o z
  let ae:Is (upd H' L (.lst us)) (-[e,.int (j:Int)]) x:=hx.mono t2;let af:IsL (upd H' L (.lst us)) (w'.map pr) us:=hu.mono t2;let U:upd H' L (.lst us) L=u_ (.lst us):=qg;generalize upd H' L (.lst us)=H2 at t2 O ae af U⊢;clear t2 hl hx hu sm
  rw[0,XC (i:=0) ae rfl λy hy=>?_]
  rw[0,XC (i:=1) ae rfl λy1 aq=>?_];rw[show y1= .int (j:Int) from aq,0]
  show nP _ _ _ _ H2;refine qF λN0 n0=>n0 _ _ ?_;rw[8,BB,bb];let ad:∀(n':Nat) (w2:oj (D×Nat)) (aa:oj V) (H3:Hp),ie H H3->H3 L=u_ (.lst aa)->IsL H3 (w2.map pr) aa->(j<=12->n'<=600->G w2 n'=isT d)->(12<j\/600<n'->isT d=Vt)->↑w2<=1+40*n'->ndL (w2.map (·.1))<ndL ((w'++ [(e,j)]).map (·.1))->
    BB [u_ v,u_ (V.int (n':Int)),u_ (V.ref L),u_ x,u_ y,u_ (V.int (j:Int))] H3:=by
   intro n' w2 aa H3 s3 l3 i3 g3 b3 al m3;let am:isT d=Vt->Q (.bl Vt) H3:=λe=>by
    let q:=k H3 s3;rwa[e] at q
   refine bb _ _ ?_
   rw[0,_,0,1,0];refine lz (λc=>lG (am (b3 (.inl ?_)))) (λc=>(0,_,0,1,0,?_))
   .have:=uq c;omega
   .let c':¬(12:Int)<(j:Int):=λq=>c (ua q);refine lz (λc2=>am (b3 (.inr ?_))) (λc2=>?_)
    .have:=uq c2;omega
    .let aw:¬(600:Int)<(n':Int):=λq=>c2 (ua q);exact(_,m3,n',w2,aa,_,_,0,s3,l3,i3,g3 () (),(),al,1)
  rw[0,y,"tuple",tyD e,Zv e,1,hy.ty,XL e,0];cases e with
  |tup xs=>
   refine lG ?_;erw[hy,a0,vs,rfl,ac,ag];let lv:=↑ag
   rw[0,_,↑vs,1,.inr [vs:SqT.of ac:1],_,0,1,0];refine lz (λc=>?_) (λc=>?_)
   .let c':(↑vs:Int)<=40:=uq c
    rw[0,_,0,1]
    rw[0,.inl [1:_:SqL.of U],0,a0,vs,1,SqT.of ac,λax A0 ah=>?_];refine BH (tl:= [u_ (.int (j:Int))]) (λd0=>-[d0,.int ((j+1:Nat):Int)]) ac ag (nj ()) ah (λd0 x0 H3 R _ s3 i3 r=>?_) λH3 ys s3 l3 i3=>?_
    .rw[0,0,_,0,1,(sml rfl),λp hp=>?_];exact r _ _ (qf hp _) (Is.new (ds:= [d0,.int ((j+1:Nat):Int)]) (x0,0,i3,_,0,1,1) hp)
    .let ly:=↑i3;rw[uc] at ly;let eA:A0≠L:=λz=>by rw[z,U,0] at ah
     rw[_,L,A0,us,ys,1,1,s3 _ _ U,l3,nj ()]
     let t4:Tk H3 (upd H3 L (.lst (us++ys))):=Tk.updL (s3 _ _ U);let em:(w'++xs.map λd0=>(d0,j+1)).map pr=w'.map pr++xs.map λd0=>-[d0,.int ((j+1:Nat):Int)]:=by
      rw[uA,uR];rfl
     let ef:(w'++xs.map λd0=>(d0,j+1)).map (·.1)=w'.map (·.1)++xs:=by
      rw[uA,uR]
      congr 1
      exact tQ xs
     refine ad (n+1) (w'++xs.map λd0=>(d0,j+1)) (us++ys) _ (λb o z=>by rw[qk (qi z ak)];exact s3 b o (O b o z)) qg (by rw[em];exact((af.mono s3.tk).mono t4).append (i3.mono t4)) (λh1 h2=>?_) (λh=>?_) ?_ ?_
     .rw[<-hG,AfU () h1]
     .rw[<-hG];rcases h with h|h
      .exact SA h
      .exact AeD h
     .rw[uE,uc];omega
     .rw[ef,hm,Zr];simp![nd];omega
   .let c':¬(↑vs:Int)<=40:=λq=>c (ua q)
    rw[0,_,¬xs,1,(show Is _ (¬xs) (-a0) from(a0,vs,1,ac,ag)),0]
    refine iX ?_;refine no O hG (Acg ?_);simp![iW];rw[ub ()]
    rfl
  |str z=>
   refine iX ?_;erw[hy,rfl,hz]
   rw[0,_,!z,1,[1:hz],0];cases ht:Qt z with
   |false=>
    let e1:NL (!z)=false:=ht;rw[e1];refine iX ?_;refine no O hG (Acg ?_);simp![iW];exact ht
   |true=>
    let e1:NL (!z)=true:=ht;rw[e1];refine lG ?_
    rw[0,0,_,↑z,1,[hz:1],_,0,1,_,0,1];let en:(n:Int)+(1+(↑z:Int))=((n+(1+↑z):Nat):Int):=by omega
    show BB [u_ v,u_ (V.int ((n:Int)+(1+(↑z:Int)))),u_ (V.ref L),u_ x,u_ (V.str z),u_ (V.int (j:Int))] _;rw[en];refine ad (n+(1+↑z)) w' us _ O U af (λh1 h2=>?_) (λh=>?_) () (by rw[hm];simp![nd];omega)
    .rw[<-hG,AfV ht h1]
    .rw[<-hG];rcases h with h|h
     .exact SA h
     .refine AeE ?_;simp![sz];omega
  |_=>
   refine iX ?_
   exact(0,_,0,hy,0,iX (no O hG (Acg rfl)))
abbrev LET:Str:="abcdefghijklmnopqrstuvwxyz"
abbrev NSG:Str:="abcdefghijklmnopqrstuvwxyz0123456789./"
abbrev nm (z:Str):Bool:=decide (1<=(↑z:Int))&&decide ((↑z:Int)<=24)&&inS ⟨#[z.cps.getD 0 0]⟩ LET&&(z.cps.toList.map λc=>inS ⟨#[c]⟩ NSG).all id
abbrev mO:D->Bool
 | .str z=>nm z|_=>Vt
inductive S8:Sp
 |mk (v:_)(d:_)(_:vs= [v])(_:Is H d v)(_:∀H',ie H H'->Q (.bl (mO d)) H')
def C4 (h:1<=↑z):atI z.cps.toList 0=u_ (z.cps.getD 0 0):=by
 let h':0<z.cps.size:=h;let q:z.cps.toList[0]? =u_ (z.cps.getD 0 0):=by simp[Array.getD,h']
 exact Qk q
def Aeh (z:Str):(z.cps.toList.map λc=>V.bl (inS ⟨#[c]⟩ NSG))=(z.cps.toList.map λc=>inS ⟨#[c]⟩ NSG).map V.bl:=by
 rw[uR]
 rfl
def CA (h:¬(1<=(↑z:Int)/\(↑z:Int)<=24)):nm z=false:=by
 unfold nm;by_cases h1:1<=(↑z:Int)
 .let h2:¬(↑z:Int)<=24:=λq=>h [h1:q];rw[ub h2];simp
 .rw[ub h1];simp
def CB (h:inS ⟨#[z.cps.getD 0 0]⟩ LET=Vt):nm z=false:=by
 unfold nm;rw[h];simp
def Ix (h1:1<=(↑z:Int))(h2:(↑z:Int)<=24)(h:inS ⟨#[z.cps.getD 0 0]⟩ LET=v_):nm z=(z.cps.toList.map λc=>inS ⟨#[c]⟩ NSG).all id:=by
 unfold nm;rw[h,ua h1,ua h2];simp
def Zf:#[T,1,a.f_is_name,a.d_is_name,["value"],S8]:=by
 rw[9,T.iV,Dq]
 erw[h,x,d,rfl,hv,k];rw[3,%[@qK _ _ _ _ _ _ _ _ #[wb,#[Qv,#[Qh,#[qw,#[Qb,2,rfl],T.qR,uW,#v[pv 0,#[Q6,.ty "str",T.zB,V2]]]]],#[xY,#[Qv,#[Cp,12,EX,EX,qj,#[qw,JR,T.yt,uK,#v[pv 0]],#[qaa,T.Zd],_]]]].pt %[|#[qp,jC]] qu,#[qK,#[qo,8,wd,#[qL,CQ,pv 0,qj],#[Adk,4,_,T.m_LETTERS,_],#[w]],%[|#[qp,jC]],qu]|#[qp,#[qw,#[wG,1,rfl],T.z_all,r9,#v[#[zW,["sign"],[],Acn,#[OM,4,pv 0],(λ_ _ _ _ _ _=>#[qW,(0),(show VZ (["sign"]:oj Str) by rw[12])]),(λ_ _ _ _ _ _=>#[yQ,EY,pv 0,#[Adk,4,_,T.m_NAME_SIGNS,_],#[w]])]]]]]]
 rw[0,x,"str",tyD d,isStr d,1,hv.ty,j0 d,0];cases hd:isStr d with
 |false=>
  refine lG (lG ?_);have:=k H (ie.refl H);let e:mO d=false:=by cases d<;>first|rfl|simp[isStr] at hd
  rwa[e] at this
 |true=>
  obtain⟨z,rfl⟩:∃z,d= !z:=by cases d<;>simp[isStr] at hd;exact⟨0⟩
  erw[hv,rfl,hz];let k:∀H',ie H H'->Q (.bl (nm z)) H':=k;refine iX ?_
  rw[0,z,1,hz,_,0,1,0];let stop:nm z=Vt->Q (.bl Vt) H:=λe=>by
   have:=k H (ie.refl H);rwa[e] at this
  refine lz (λU=>?_) (λU=>?_)
  .let aa:1<=(↑z:Int):=uq U
   rw[_,_,0,1,0];by_cases O:(↑z:Int)<=24
   .rw[ua O];refine iX ?_
    rw[0,_,_,0,1,hz,C4 (),_,0,1,0]
    cases e:inS ⟨#[z.cps.getD 0 0]⟩ LET with
    |false=>
     let e':(!(tj ("abcdefghijklmnopqrstuvwxyz":Str) ⟨#[z.cps.getD 0 0]⟩ 0 ("abcdefghijklmnopqrstuvwxyz":Str).length 1).isEmpty)=false:=e;rw[e'];refine lG ?_;exact stop (CB e)
    |true=>
     let e':(!(tj ("abcdefghijklmnopqrstuvwxyz":Str) ⟨#[z.cps.getD 0 0]⟩ 0 ("abcdefghijklmnopqrstuvwxyz":Str).length 1).isEmpty)=true:=e;rw[e'];refine iX ?_
     rw[0,z,1,λD hD=>?_];refine AdJ (λc=> .bl (inS ⟨#[c]⟩ NSG)) (hz) hD (λi c H' R hc sm r=>(0,_,0,1,r)) λH' sm hl=>?_
     rw[_,D,z.cps.toList.map λc=>inS ⟨#[c]⟩ NSG,1,SqL.of (by rw[hl,Aeh])]
     have:=k H' sm;rwa[Ix aa O e] at this
   .rw[ub O];refine lG ?_;exact stop (CA λq=>O q.2)
  .rw[0];refine lG ?_;exact stop (CA λq=>U (ua q.1))
end
abbrev Acm:om Pt->D
 |none=> .non|some p=>p.d
inductive S4:Sp
 |mk (n:Nat)(kd:Kd)(z:Str)(_:vs= [!kd.t,!z,.int (n:Int)])(_:n<=40)(_:↑z<=300)(_:∀(v:V)(H':Hp),ie H H'->Is H' (Acm (Yp n kd z)) v->Q v H')
inductive El (K:PySem.W.Frag):Sp
 |mk (z:Str)(ks:List Kd)(q:Addr)(_:vs= [!z,-q])(_:↑z<=300)(_:↑ks<=3)(_:SqT K H q (ks.map λk=>V.str k.t))(_:∀p,H p=U_->Q (-p) (upd H p (.lst ((pcs ks z).map V.str))))
def Qx {c:Bool}{A B:Prop}(h:c=Vt)(b:B):if c=v_ then A else B:=by rw[A4 (by rw[h];exact uh)];exact b
def QO {c:Bool}{A B:Prop}(h:c=v_)(a:A):if c=v_ then A else B:=by rw[A6 h];exact a
def Zm (ks:oj Kd):(ks.map λk=>V.str k.t)=(ks.map Kd.t).map V.str:=by rw[uR];rfl
def Mj (ks:oj Kd):inV (-"words") (ks.map λk=>V.str k.t)=decide (Kd.words>ks):=by
 rw[Zm,wB,vc,Af];constructor
 .rintro⟨k,O,e⟩;cases k with|words=>exact O|box=>exact A9 e ()|line=>exact A9 e ()
 .intro h;exact[_:h:1]
def CZ:∀x>FRM,↑x.2<=3:=by rw[12]
def qac (h:z∉BX):Yp n .box z=none:=by
 unfold Yp;exact A4 h
def zG (h:z>BX):Yp n .box z=u_ (.s z):=by
 unfold Yp;exact A6 h
def kh (h:z∉(VN n).map λi:Nat=>(VH (1+(i:Int)):Str)):Yp n .line z=none:=by
 unfold Yp;rw[rC,UK];intro i hi e;exact h (Af.mpr [i:hi:uq e])
def xO (h:z>(VN n).map λi:Nat=>(VH (1+(i:Int)):Str)):∃j:Int,1<=j/\j<=n/\z=(Pt.n j).t/\Yp n .line z=u_ (.n j):=by
 erw[Af.mp h,i,hi,e];unfold Yp;cases e2:(VN n).find? λi:Nat=>decide ((VH (1+(i:Int)):Str)=z) with
 |none=>exact A9 (ua e) (List.find?_eq_none.mp e2 i hi)|some j=>
  let h1:=tP e2;let h2:=List.mem_range.mp (Up e2);exact(1+(j:Int),(),(),(uq h1).symm,by show Pr _ _=_;rw[e2];rfl)
section
variable {P:o9}{w:og}{K:o0}{mg:Str->om o6}{base:o8}{a:Ad}{g:Ga}
def Aa0:#[C,1,a.f_part_of,a.d_part_of,["kind","piece","count"],S4]:=by
 rw[9,T.nT,kX]
 erw[h,n,kd,z,rfl,hn,hz,k];rw[3,%[#[qK,#[qo,Qn,pv 0,qh],%[|#[qp,pv 1]],qu],#[qK,#[qo,Qn,pv 0,qh],%[|#[qp,#[yd,#[qo,8,ya,pv 1,#[WV,C.m_BOXES],#[w]],pv 1,qY]]],qu],#[KZ,2,["number"],(1),[],(3),12,kX.nd,rfl,Hs rfl,Acn,rfl,#[sY,7,_,T.jX,#v[qj,#[qV,yy,pv 2,qj]],_,_],(λ_ _ _ _ _ _=>#[qW,(0),(show VZ (["number"]:oj Str) by rw[12])]),(λ_ _ _ _ _ _=> @y8 _),(λ_ _ _ _ _ _=>#[qX,Yo,T.zB,V2,#v[pv 0]]),_,_,_]|#[qp,#[yd,#[qo,8,ya,pv 1,pv 3,#[w]],#[qX,LZ,T.z_int,boot_int,#v[pv 1]],qY]]]]
 rw[0,1,0];cases kd with
 |words=>
  refine QO () [0:?_]
  exact k _ H (ie.refl _) [1:yA ()]
 |box=>
  refine Qx () (0,1,0,?_)
  refine QO () (0,g.boxes,0,.inr (C.boxes _),1,Wa _,0,?_)
  rw[A4 uh,wB];refine lz (λc=>?_) (λc=>?_)
  .let U:z>BX:=uq c;rw[zG U] at k;exact[0:k _ H (ie.refl _) [1:yA ()]]
  .let U:z∉BX:=λq=>c (ua q);rw[qac U] at k;exact k _ H (ie.refl _) rfl
 |line=>
  refine Qx () (0,1,0,?_)
  refine Qx () ?_
  rw[0,_,0,1,(1),(n:Int)+1,1,((),(),(),()),λL hL=>?_]
  rw[show((n:Int)+1-1).toNat=n by omega]
  refine xr (lo:=1) (tl:= []) (λi ys H'=>ys=(VN i).map (λi:Nat=>V.str (VH (1+(i:Int))))/\ie H H') (nj ()) [1:qf hL _] ?_ ?_
  .rintro i ys H' hi ⟨rfl,sm⟩ O hy R hR
   rw[0,0,?_,hR _ _ O [?_:?_]]
   .let h1:(1+(i:Int)).natAbs<=41:=by omega
    let h2:=Vc (1+(i:Int)).natAbs;omega
   .rw[Fk,uA]
    rfl
   .intro b o e;rw[qk (qi e hL)];exact sm b o e
  .rintro ys H' ⟨rfl,sm⟩ O;let hy:(VN n).map (λi:Nat=>V.str (VH (1+(i:Int))))=((VN n).map λi:Nat=>(VH (1+(i:Int)):Str)).map V.str:=by rw[uR];rfl
   rw[5]
   refine(0,0,L,0,.inl (SqL.of O),1,by rw[hy];exact Wa _,0,?_)
   rw[A4 uh,hy,wB];refine lz (λc=>?_) (λc=>?_)
   .erw[xO (uq c),j,j1,j2,rfl,ej];rw[ej] at k;let hj:=Al j1 ()
    exact(0,_,j,1,qaf j1 (),uP hj.1 (),k _ _ sm rfl)
   .rw[kh λq=>c (ua q)] at k;exact k _ _ sm rfl
def Id:#[T,1,a.Wr,a.wJ,["line","form"],(El K)]:=by
 rw[9,T.m8,sH]
 erw[h,z,ks,q,rfl,hz,hk,U,k];rw[3,%[#[qK,#[qo,8,ya,qh,pv 1,#[w]],%[|#[qp,#[Jm,uZ,UF,UG,IE,pv 0,#v[qh,#[qw,qN,T.yt,uK,#v[pv 1]]]]]],qu]|#[qp,#[Jm,uZ,UF,UG,CD,pv 0,#v[qh]]]]]
 rw[5]
 refine(0,q,0,.inr U,1,by rw[Zm];exact Wa _,0,?_)
 rw[A4 uh,Mj];unfold pcs at k;refine lz (λc=>?_) (λc=>?_)
 .let O:Kd.words>ks:=uq c;rw[A6 O] at k;let h0:0<↑ks:=List.length_pos_iff.mpr λe=>by rw[e] at O;simp at O
  exact(0,1,0,q,0,.inr U,_,↑ks,1,by rw[uc],(),h0,(),k)
 .let O:Kd.words∉ks:=λz=>c (ua z);rw[A4 O] at k;exact(0,1,0,1,(),k)
abbrev Agc:om Rw->D
 |none=> .non|some r=>rowD r
abbrev Qr (n:Nat):D->om Rw
 | .str z=>wE n z|_=>U_
inductive Ej:Sp
 |mk (v:V)(d:D)(n:Nat)(_:vs= [v,.int (n:Int)])(_:Is H d v)(_:n<=40)(_:∀(v':V)(H':Hp),ie H H'->Is H' (Agc (Qr n d)) v'->Q v' H')
def Ds:∀{d:D},NL d=Vt->Qr n d=U_
 | .str z,h=>by
  show wE n z=U_;unfold wE;exact A4 (by rw[show Qt z=Vt from h];exact uh)
 | .non,_=>rfl| .int _,_=>rfl| .bl _,_=>rfl| .lst,_=>rfl| .dct,_=>rfl| .tup _,_=>rfl
def SJ:∀{d:D},NL d=v_->∃z,d= !z
 | .str z,_=>[z:1]
abbrev Jn (n:Nat)(ks:oj Kd)(zs:oj Str):oj (om Pt):=List.zipWith (Yp n) ks zs
set_option tactic.hygienic true in
def Ka {n:Nat}:∀{ks:oj Kd}{zs:oj Str},(Jn n ks zs).any H_=v_->Yy n ks zs=U_
 | [],_,h=>by simp[Jn] at h|_::_,[],h=>by simp[Jn] at h|k::ks,z::zs,h=>by
  rw[Jn,Fn,UX,Tv] at h;unfold Yy;rcases h with h|h
  .rw[Option.isNone_iff_eq_none.mp h]
  .rw[Ka h];split
   .rename_i h1 h2;rw[h2,0]
   .rfl
def Kk {n:Nat}:∀{ks:oj Kd}{zs:oj Str},↑zs=↑ks->(Jn n ks zs).any H_=Vt->∃ps,Yy n ks zs=u_ ps/\Jn n ks zs=ps.map u_
 | [],[],_,_=>[[]:1:1]| [],_::_,hl,_=>by simp at hl|_::_,[],hl,_=>by simp at hl|k::ks,z::zs,hl,h=>by
  rw[Jn,Fn,UX,TF] at h;obtain⟨ps,O,e2⟩:=Kk (ks:=ks) (zs:=zs) (by simpa using hl) h.2
  cases e:Yp n k z with
  |none=>rw[e] at h;rw[h.1,0]|some p=>
   rw[_,p::ps,?_,?_]
   .unfold Yy;rw[e,O]
   .rw[Jn,Fn,e,ur]
    congr 1
def Oq {H:Hp}:∀{os:oj (om Pt)}{vs:oj V},L2.IsL H (os.map Acm) vs->vs.all wf=v_/\inV .non vs=os.any H_
 | [],_,h=>by rw[show _= [] from h,0];exact[1:1]|q::ps,_,h=>by
  erw[h,v,r,rfl,h1,h2];erw[Oq h2,U,i2];let O:wf v=v_/\eqV v .non=q.isNone:=by
   cases q with
   |none=>rw[show v= .non from h1,0];exact[1:1]|some q=>
    cases q with
    |s z=>erw[h1,rfl,_,<-[1:1]]|n i=>rw[show v= .int i from h1,0];exact[1:1]
  rw[_,?_,?_]
  .rw[vK,O.1,U];rfl
  .show(eqV v .non||inV .non r)=_
   rw[O.2,i2];rfl
def EG {α:Type}(l:oj α)(h:α->D)(f:Nat->D)(O:∀i q,l[i]? =u_ q->f i=h q):(VN ↑l).map f=l.map h:=by
 apply List.ext_getElem
 .simp
 .intro i h1 h2;simp![uc,rg] at h1;simp![List.getElem_map,List.getElem_range];exact O i l[i] (um h1)
def Fr:#[C,2,a.f_row_of,a.d_row_of,["line","count"],Ej]:=by
 let W0:=#[KA,T];let aa:=#[Aa0,T,C];let O:=#[Id,T];refine T.AD.F.ok JO () (λ_ _ _ _ H vs Q E hr h=>?_)
 erw[h,v,d,n,rfl,hv,hn,k];rw[3,%[#[qK,#[Qv,#[Qh,#[qr,W0,#[20],T.mZ,qG,#v[pv 0]]]],%[|#[qp,qY]],qu],#[qy,(2),JO.nd,#[qL,qJ,#[Jm,uZ,PySem.F.slot_str_partition,PySem.F.type_str_partition,Abu,pv 0,#v[qh]],qj]],#[qK,#[qo,8,AaN,pv 2,#[WV,C.m_FORMS],#[w]],%[|#[qp,qY]],qu],#[qy,(3),JO.nd,#[qL,Age,#[WV,C.m_FORMS],pv 2]],#[qy,(4),JO.nd,#[qr,O,#[20],T.m8,qG,#v[pv 0,pv 3]]],#[qK,#[qo,M3,#[qw,qN,T.yt,uK,#v[pv 4]],#[qV,yy,qj,#[qw,qN,T.yt,uK,#v[pv 3]]]],%[|#[qp,qY]],qu],#[qy,(5),JO.nd,#[qX,Qd,T.QI,vx,#v[#[zW,2,["kind","piece","count"],(2),[1],9,Mf (ql wv) ["line","count","word","form","pieces","parts"],rfl,#[Adf,9,_,T.z_zip,#v[pv 3,#[Y7,zS,pv 4,#[jZ,qj],J2]],_,_],(λ_ _ _ _ _ _=>#[AaI,1,K,3,(2),1,rfl,rfl,YE #[qW,(0),(show VZ (["kind","piece","count"]:oj Str) by rw[12])] (YE #[qW,(1),(show VZ (["kind","piece","count"]:oj Str) by rw[12])] qak),_,_]),(λ_ _ _ _ _ _=> @y8 _),(λ_ _ _ _ _ _=>#[qr,aa,#[20],T.nT,qG,#v[pv 0,pv 1,pv 2]]),_]]]]|#[qp,#[yd,#[qo,8,ya,qY,pv 5,#[w]],qY,#[qE,#v[pv 2,pv 5]]]]]]
 rw[0,v,d,1,hv,0];cases e0:NL d with
 |false=>
  rw[Ds e0] at k;exact QO rfl (k _ H (ie.refl _) rfl)
 |true=>
 erw[SJ e0,z,rfl];erw[hv,rfl,au];let ht:Qt z=true:=e0;let hz:↑z<=300:=by
  let U:=ht;unfold Qt at U;rw[uB,uT] at U;exact U.1
 let k:∀(v':V) (H':Hp),ie H H'->Is H' (Agc (wE n z)) v'->Q v' H':=k;refine Qx rfl ?_
 rw[0,1,0,1,(),λt1 x1 x2 g1=>?_]
 rw[_,t1,_,(0),0,1,SqT.of qg,1];let s1:ie H (upd H t1 (-[.str (hd z),!x1,!x2])):=qf g1 _;generalize upd H t1 (-[.str (hd z),!x1,!x2])=H1 at s1⊢;unfold wE at k;rw[A6 ht] at k;cases ef:xS (hd z) with
 |none=>
  rw[ef] at k
  exact(0,hd z,g.forms,0,1,C.kd,C.none_ _ ef,0,QO rfl (k _ _ s1 rfl))
 |some ks=>
 let hk:=Za ef;rw[ef] at k;simp only at k;erw[C.forms _ hk,q,ah,ac];let hf:↑ks<=3:=CZ _ hk
 rw[0,hd z,g.forms,0,1,C.kd,ah,0];refine Qx rfl ?_
 rw[0,hd z,g.forms,_,-q,1,1,C.kd,ah,1]
 rw[0,0,z,ks,q,1,hz,hf,ac _,λp2 g2=>?_];let s2:ie H1 (upd H1 p2 (.lst ((pcs ks z).map V.str))):=qf g2 _;let e2:(upd H1 p2 (.lst ((pcs ks z).map V.str))) p2=u_ (.lst ((pcs ks z).map V.str)):=qg;generalize upd H1 p2 (.lst ((pcs ks z).map V.str))=H2 at s2 e2⊢
 rw[0,p2,0,.inl (SqL.of e2),0,q,0,.inr (ac _),_,0,1,1,0];by_cases hl:↑(pcs ks z)=1+↑ks
 case neg=>
  rw[A4 hl] at k;refine QO ?_ (k _ _ (s1.trans s2) rfl);rw[uc,uc];show(!(decide) (V.int _=V.int _))=v_;rw[ub]
  .rfl
  .intro q;have:(↑(pcs ks z):Int)=1+(↑ks:Int):=V.int.inj q;omega
 rw[A6 hl] at k;refine Qx ?_ ?_
 .rw[uc,uc,show(↑(pcs ks z):Int)=1+(↑ks:Int) by omega]
  simp
 let af:↑((pcs ks z).drop 1)=↑ks:=by rw[Ug];omega
 let ak:∀p>(pcs ks z).drop 1,↑p<=300:=λp hp=>by
  let U:=ht;unfold Qt at U;rw[uB,uT] at U;exact(Oy U.1 U.2 p (FE hp)).1
 rw[0,0,0,p2,0,SqL.of e2,λp3 g3=>?_];let al:l6 ((pcs ks z).map V.str) (u_ 1) U_=((pcs ks z).drop 1).map V.str:=by
  rw[show(u_ (1:Int))=u_ (((1:Nat)):Int) from rfl,AL (by rw[uc];omega),List.map_drop]
 rw[al];generalize (pcs ks z).drop 1=zs at af ak k⊢;let s3:ie H2 (upd H2 p3 (.lst (zs.map V.str))):=qf g3 _;let e3:(upd H2 p3 (.lst (zs.map V.str))) p3=u_ (.lst (zs.map V.str)):=qg;generalize upd H2 p3 (.lst (zs.map V.str))=H3 at s3 e3⊢;let ao:↑(Jn n ks zs)=↑ks:=by rw[Jn,List.length_zipWith];omega
 rw[_,q,p3,_,0,ac _,SqL.of e3,λA1 gA=>?_];refine AdI (K:=K) (tl:= [u_ (.int (n:Int))]) (xs:=ks.map λk:Kd=>V.str k.t) (ys:=zs.map V.str) (λi=>Acm ((Jn n ks zs).getD i U_)) (λH' _=>ac H') (λH' sm=>SqL.of (sm _ _ e3)) (by simp[af]) (by rw[uc];exact yA ()) gA ?_ ?_
 .intro i x y H4 R hx hy s4 hR;rw[uG] at hx hy;cases ag:ks[i]? with
  |none=>rw[ag,0] at hx|some kd=>
   rw[ag,0] at hx;cases ad:zs[i]? with
   |none=>rw[ad,0] at hy|some z1=>
    rw[ad,0] at hy
    rw[0,0,0,n,kd,z1,1,hn,ak _ (uL ad),λv H5 s5 hv=>hR v H5 s5 ?_];let e:(Jn n ks zs).getD i U_=Yp n kd z1:=by simp[Hw,Jn,List.getElem?_zipWith,ag,ad]
    simp![e];exact hv
 intro H5 vs s5 e5 h5;let am:L2.IsL H5 ((Jn n ks zs).map Acm) vs:=by
  rw[uc,<-ao] at h5;rw[EG (Jn n ks zs) Acm _ (λi q1 hi=>by simp[Hw,hi])] at h5
  exact h5
 rw[_,A1,vs,1,.inl [SqL.of e5:λt6 g6=>?_]];let s6:ie H5 (upd H5 t6 (¬vs)):=qf g6 _;let i6:Is (upd H5 t6 (¬vs)) (.tup ((Jn n ks zs).map Acm)) (-t6):=Is.new am g6;let e6:(upd H5 t6 (¬vs)) t6=u_ (¬vs):=qg;generalize upd H5 t6 (¬vs)=H6 at s6 i6 e6⊢;erw[Oq am,f1,f2];let ae:=s1.trans (s2.trans (s3.trans (s5.trans s6)))
 rw[0,t6,vs,1,.inr (SqT.of e6),1,f1,0];rw[A4 uh,f2];refine lz (λc=>?_) (λc=>?_)
 .rw[Ka c] at k;exact k _ _ ae rfl
 .let c':(Jn n ks zs).any H_=false:=by
   cases h:(Jn n ks zs).any H_ with
   |false=>rfl|true=>exact A9 h c
  erw[Kk af c',ps,q1,q2];rw[q1] at k;rw[q2,uR] at i6
  rw[0,0,(sml rfl),λt7 g7=>?_];let ap:↑(hd z)<=sizeLine:=by
   let aq:∀x>FRM,↑x.1<=100:=by rw[12]
   have:=aq _ hk;exact yA (by simp only at this;omega)
  exact k _ _ (ae.trans (qf g7 _)) (Is.new (ds:= [.str (hd z),.tup (ps.map Pt.d)]) (_,0,[1:ap],_,0,i6,1) g7)
def ER {M:Nat}(hn:n<=40){k:Kd}{p:Pt}(h:Ada n M k p):Yp n k p.t=u_ p:=by
 cases k with
 |words=>
  cases p with
  |s z=>rfl|n i=>rw[h,0]
 |box=>
  cases p with
  |s z=>exact zG h|n i=>rw[h,0]
 |line=>
  cases p with
  |s z=>rw[h,0]|n i=>
   let h1:1<=i/\i<=n:=h;let hm:(Pt.n i).t>(VN n).map λi:Nat=>(VH (1+(i:Int)):Str):=Af.mpr ⟨(i-1).toNat,List.mem_range.mpr (),by show(VH (1+(((i-1).toNat:Nat):Int)):Str)=VH i;rw[show 1+(((i-1).toNat:Nat):Int)=i by omega]⟩
   erw[xO hm,j,U,j2,ej,e];rw[e];let b1:=qaf (i:=i) h1.1 ()
   let b2:=qaf (i:=j) U ()
   let O:(VH i:Str)=VH j:=ej;rw[O,b2] at b1;rw[uJ b1]
def Ke {n M:Nat}(hn:n<=40):∀{ks:oj Kd}{ps:oj Pt},Xv n M ks ps->Yy n ks (ps.map Pt.t)=u_ ps
 | [],[],_=>rfl|k::ks,p::ps,h=>by
  rw[ur];unfold Yy;rw[ER hn h.1,Ke hn h.2]
 | [],_::_,h=>h.elim|_::_,[],h=>h.elim
variable {ks:oj Kd}
def Lr {w:Str}(h:(w,ks)>FRM):xS w=u_ ks:=by
 cases e:xS w with
 |none=>exact A9 rfl (Wm e _ h)|some O=>
  have:=Lq _ (Za e) _ h rfl;rw[(Prod.mk.inj this).2]
variable {r:Rw}
def Dr {M:Nat}(hn:n<=40)(h:jH n M r)(ht:Qt (yW r)=v_):wE n (yW r)=u_ r:=by
 let hh:=Abw h;erw[h,ks,U,O];unfold wE;rw[A6 ht,hh,Lr U];simp only;let hs:pcs ks (yW r)=txs r:=NG hn U O;let hl:=ZV O;rw[hs,A6 (by unfold txs;rw[uw,uc];omega)]
 show Pr _ (Yy n ks (r.2.map Pt.t))=_;rw[Ke hn O]
 rfl
abbrev y9 (rs:oj Rw):D:= .tup (rs.map λr=> .str (yW r))
structure yg (rs:oj Rw):Prop where
 n0:1<=↑rs
 n1:↑rs<=40
 ok:∀r>rs,jH ↑rs 300 r
 tree:isT (y9 rs)=v_
def AB:∀{ds:oj D}{d:D},goodL ds=v_->d>ds->iW d=v_
 |x::xs,d,h,hm=>by
  simp![goodL,uB] at h;rcases Ab.mp hm with rfl|hm
  .exact h.1
  .exact AB h.2 hm
variable {rs:oj Rw}
def yg.text (h:yg rs)(O:r>rs):Qt (yW r)=true:=by
 let h1:=h.tree;unfold isT at h1;rw[uB,uB] at h1;let h2:=h1.1.1;unfold y9 at h2;simp![iW,uB] at h2;have:=AB h2.2 (Af.mpr [r:O:1])
 simpa only [iW] using this
abbrev yf:D->om (oj Rw)
 | .tup ds=>if(decide (1<=↑ds)&&decide (↑ds<=40)&&ds.all (λd=>(Qr ↑ds d).isSome)&&isT (¬ds))=v_ then u_ (ds.filterMap (Qr ↑ds)) else U_|_=>U_
def X6 (ds:oj D):yf (¬ds)=if(decide (1<=↑ds)&&decide (↑ds<=40)&&ds.all (λd=>(Qr ↑ds d).isSome)&&isT (¬ds))=v_ then u_ (ds.filterMap (Qr ↑ds)) else none:=rfl
def sP {n:Nat}:∀{rs:oj Rw},(∀r>rs,Qr n (.str (yW r))=u_ r)->(rs.map λr=>D.str (yW r)).filterMap (Qr n)=rs
 | [],_=>rfl|r::rs,h=>by
  rw[ur,Uu (h r uj),sP λx O=>h x (ui _ O)]
def yg.rowD (h:yg rs)(O:r>rs):Qr ↑rs (.str (yW r))=u_ r:=Dr h.n1 (h.ok r O) (h.text O)
def yg.read (h:yg rs):yf (y9 rs)=u_ rs:=by
 let hl:↑(rs.map λr=>D.str (yW r))=↑rs:=uc ..;let U:=h.tree;unfold y9 at U⊢;rw[X6,hl,A6]
 .rw[sP λr O=>h.rowD O]
 .rw[ua h.n0,ua h.n1,U,List.all_eq_true.mpr]
  .rfl
  .intro d hd;erw[Af.mp hd,r,O,rfl];rw[h.rowD O]
   rfl
abbrev Agk (d x y:D):Prop:=(∀rs,yf d=u_ rs->x= .tup (rs.map L2.rowD)/\y= .non)/\(yf d=U_->∃i:Int,y= .int i)
inductive S1:Sp
 |mk (v:V)(d:D)(_:vs= [v])(_:Is H d v)(_:∀(u:V)(H':Hp)(x y:D),ie H H'->Agk d x y->Is H' (-[x,y]) u->Q u H')
def EF {d x:D}{i:Int}(h:yf d=U_):Agk d x (.int i):=⟨λrs e=>(by rw[h,0] at e),λ_=>[i:1]⟩
def X7 {α:Type}{o:om α}(h:o.isSome=v_):∃x,o=u_ x:=by cases o with|none=>rw[h,0]|some x=>exact[x:1]
variable {ds:oj D}
def Ey {d:D}(h1:ds[i]? =u_ d)(h2:Qr n d=u_ r):(ds.take (i+1)).filterMap (Qr n)=(ds.take i).filterMap (Qr n)++ [r]:=by
 rw[vk,h1,List.filterMap_append];simp[h2]
def Cj {n:Nat}:∀{ds:oj D},(∀z>ds,(Qr n z).isSome=v_)->↑(ds.filterMap (Qr n))=↑ds
 | [],_=>rfl|z::ds,h=>by
  erw[X7 (h z uj),r,e];rw[Uu e,uw,uw];exact Aa (·+1) (Cj λy O=>h y (ui _ O))
def Ib:#[C,3,a.ZH,a.ZF,["value"],S1]:=by
 let yM:=#[jF,T];let aa:=#[Fr,T,C];refine T.md.F.ok YC () (λ_ _ _ _ H vs Q E hr h=>?_)
 erw[h,v,d,rfl,hv,k];rw[3,%[@qK _ _ _ _ _ _ _ _ #[wb,#[Qv,#[Qh,#[qw,#[Qb,2,rfl],T.qR,uW,#v[pv 0,#[Q6,.ty "tuple",T.QI,vx]]]]],#[xY,#[Qv,#[Cp,12,EX,EX,qj,#[qw,qN,T.yt,uK,#v[pv 0]],#[qaa,T.m_MOST_LINES],_]]]].pt %[|#[qp,#[qE,#v[#[qE,qd],qj]]]] qu,#[qy,(1),YC.nd,#[QN,qd]],#[YH,#[Cq,4,pv 0],#[qW,(2),YC.nd],%[#[qy,(3),YC.nd,#[qr,aa,#[20],T.AD,qG,#v[pv 2,#[qw,qN,T.yt,uK,#v[pv 0]]]]],#[qK,#[qo,Yz,pv 3,qY],%[|#[qp,#[qE,#v[#[qX,Qd,T.QI,vx,#v[pv 1]],#[qV,yy,#[qw,qN,T.yt,uK,#v[pv 1]],qj]]]]],qu]|#[Qe,#[Jm,vh,U3,U4,jv,pv 1,#v[pv 3]]]]]|#[qp,#[qE,#v[#[qX,Qd,T.QI,vx,#v[pv 1]],#[yd,#[Qh,#[qr,yM,#[20],T.lm,qG,#v[pv 0]]],qY,qj]]]]]]
 rw[0,v,"tuple",_,Zv d,1,hv.ty,XL d,0];let U:yf d=U_->∀(t:o3),H t=U_->∀t2,(upd H t (-[])) t2=U_->Q (-t2) (upd (upd H t (-[])) t2 (-[-t,.int 1])):=λhn t g t2 g2=>
  k _ _ (-[]) (.int 1) ((qf g _).trans (qf g2 _)) (EF hn) (Is.new (ds:= [-[],.int 1]) (_,0,Is.new (ds:= []) rfl g,_,0,1,1) g2)
 cases ht:Zv d with
 |false=>
  let hn:yf d=none:=by
   cases d with
   |tup ds=>rw[ht,0]|_=>rfl
  exact lG (lG [(sml rfl):λt g1=>[(sml rfl):λt2 g2=>U hn t g1 t2 g2]])
 |true=>
 obtain⟨ds,rfl⟩:∃ds,d=¬ds:=by
  cases d with
  |tup ds=>exact[ds:1]|_=>rw[ht,0]
 refine iX ?_;let ad:=hv;erw[ad,va,us,rfl,ha,hu];let ae:↑us=↑ds:=↑hu
 rw[0,va,us,1,.inr (SqT.of ha),_,0,1,0];let no:¬(1<=↑ds/\↑ds<=40/\(∀z>ds,(Qr ↑ds z).isSome=v_)/\isT (¬ds)=v_)->yf (¬ds)=none:=λhc=>by
  unfold yf;refine A4 λz=>hc ?_;simp![uB,uT,U9] at z;exact(z.1.1.1,z.1.1.2,z.1.2,z.2)
 by_cases c1:1<=↑ds
 case neg=>
  refine Qx (ub ()) [0:?_]
  exact lG [(sml rfl):λt g1=>[(sml rfl):λt2 g2=>U (no λz=>c1 z.1) t g1 t2 g2]]
 refine QO (ua ()) ?_
 rw[_,_,0,1,0];by_cases c2:↑ds<=40
 case neg=>
  refine QO (by rw[ub ()];rfl) ?_
  exact[(sml rfl):λt g1=>[(sml rfl):λt2 g2=>U (no λz=>c2 z.2.1) t g1 t2 g2]]
 refine Qx (by rw[ua ()];rfl) ?_
 rw[_,(sml rfl),λL1 g1=>?_]
 rw[0,va,1,[us:SqT.of (qf g1 _ _ _ ha)]]
 refine_lift let J1_:Nat->L2.St->Hp->Prop:=λi σ H'=>i<=↑ds/\(∀z>ds.take i,(Qr ↑ds z).isSome=v_)/\∃(ws:oj V) (x2 x3:om V),σ= [u_ (-va),u_ (-L1),x2,x3]/\H' L1=u_ (.lst ws)/\L2.IsL H' (((ds.take i).filterMap (Qr ↑ds)).map L2.rowD) ws/\ie H H';?_
 refine qaI (K:=K) (a:=va) (xs:=us) J1_
  (uN _,(λz hz=>by simp at hz),[],U_,U_,1,qg,1,qf g1 _) (λi σ H' _ ⟨_,_,_,_,_,_,_,_,sm⟩=>SqT.of (sm _ _ ha)) ?_ ?_
 .rintro i x σ H' hx ⟨ak,O,ws,x2,x3,rfl,e1,hw,sm⟩;let ac:i<↑ds:=by
   erw[Ah.mp hx,h,_];omega
  erw[hu.get (i:=i) (d:=ds[i]) (um ac),x',af,al];rw[hx,0] at af;let am:↑ws=i:=by
   rw[↑hw,uc,Cj O,U6];omega
  rw[5]
  refine(0,0,va,us,1,.inr (SqT.of (sm _ _ ha)),x,ds[i],↑ds,by rw[ae];rfl,al.mono sm.tk,c2,λv H2 s2 hv=>?_)
  let e2:=s2 _ _ e1;cases er:Qr ↑ds ds[i] with
  |some r=>
   rw[er] at hv;let hv:Is H2 (L2.rowD r) v:=hv;let ad:=hv;erw[ad,ag,ao,rfl,_,_]
   rw[0,1,0];refine Qx (ub λz=>by rw[z,0]) ?_
   rw[0,.inl [1:_:SqL.of e2],0,L1,ws,0,1,e2,zE ()]
   let t3:Tk H2 (upd H2 L1 (.lst (ws++ [-ag]))):=Tk.updL e2
   rw[_,ac,λz hz=>?_,ws++ [-ag],_,0,qg,?_,λb o e=>?_]
   .rw[vk,um ac] at hz;rcases Ae.mp hz with hz|hz
    .exact O z hz
    .have:z=ds[i]:=by simpa using hz
     rw[this,er]
     rfl
   .rw[Ey (um ac) er,uA];exact((hw.mono s2.tk).mono t3).append (IsL.one (hv.mono t3))
   .rw[qk (qi e g1)];exact s2 b o (sm b o e)
  |none=>
   rw[er] at hv;rw[show v= .non from hv,0]
   rw[0,1,0];refine QO rfl ?_
   rw[0,L1,ws,1,.inl [SqL.of e2:λt1 g2=>?_]];let s3:ie H2 (upd H2 t1 (¬ws)):=qf g2 _;let i3:Is (upd H2 t1 (¬ws)) (.tup (((ds.take i).filterMap (Qr ↑ds)).map L2.rowD)) (-t1):=Is.new (hw.mono s2.tk) g2
   rw[0,L1,ws,1,.inl (SqL.of (s3 _ _ e2)),_,0,1,(sml rfl),λt4 g4=>?_];exact k _ _ _ (.int _) (sm.trans (s2.trans (s3.trans (qf g4 _)))) (EF (no λz=>by have:=z.2.2.1 _ (v9 ac);rw[er,0] at this)) (Is.new (ds:= [.tup (((ds.take i).filterMap (Qr ↑ds)).map L2.rowD),.int _]) (_,0,i3,_,0,1,1) g4)
 .rintro σ H' ⟨ak,O,ws,x2,x3,rfl,e1,hw,sm⟩;rw[ae,vN] at hw O
  rw[0,L1,ws,1,.inl [SqL.of e1:λt1 g2=>?_]];let s2:ie H' (upd H' t1 (¬ws)):=qf g2 _;let i2:Is (upd H' t1 (¬ws)) (.tup ((ds.filterMap (Qr ↑ds)).map L2.rowD)) (-t1):=Is.new hw g2;generalize upd H' t1 (¬ws)=H2 at s2 i2⊢
  rw[0,_,¬ds,1,hv.mono (sm.trans s2).tk,λH3 s3=>?_]
  rw[0];cases hT:isT (¬ds) with
  |true=>
   refine QO rfl [(sml rfl):λt4 g4=>?_];let ah:yf (¬ds)=u_ (ds.filterMap (Qr ↑ds)):=by
    rw[X6,A6];rw[ua c1,ua c2,hT,List.all_eq_true.mpr O]
    rfl
   exact k _ _ _ .non (sm.trans (s2.trans (s3.trans (qf g4 _)))) ⟨λrs e=>(by rw[ah,0] at e;exact[1:1]),λe=>(by rw[ah,0] at e)⟩ (Is.new (ds:= [.tup ((ds.filterMap (Qr ↑ds)).map L2.rowD),.non]) (_,0,i2.mono s3.tk,_,0,1,1) g4)
  |false=>
   refine Qx rfl [(sml rfl):λt4 g4=>?_];exact k _ _ _ (.int 1) (sm.trans (s2.trans (s3.trans (qf g4 _)))) (EF (no λz=>by have:=z.2.2.2;rw[hT,0] at this)) (Is.new (ds:= [.tup ((ds.filterMap (Qr ↑ds)).map L2.rowD),.int 1]) (_,0,i2.mono s3.tk,_,0,1,1) g4)
inductive SY (br:Addr)(vs:List V)(H:Hp)(Q:VK)(E:XK):Prop
 |mk (v:V)(d:D)(_:vs= [v])(_:Is H d v)(_:(∀rs,yf d=u_ rs->∀(u:V)(H':Hp),ie H H'->Is H' (.tup (rs.map L2.rowD)) u->Q u H'))(_:(yf d=U_->∀(e:Addr)(H':Hp),ie H H'->E (-e) (u_ br) H'))
def AaX (T:Tx K mg a)(C:Fx K w mg g a):FnOk P w K mg base (CX1 P w) 4 a.WQ a.WR ["tree"] (SY g.br):=by
 let J5:=#[Ib,T,C];refine T.m7.F.okX ZX () (λ_ _ _ _ H _ Q E hr h=>?_)
 erw[h,v,d,rfl,hv,k,kB];rw[3,%[#[qy,(1),ZX.nd,#[qr,J5,#[20],T.md,qG,#v[pv 0]]],#[qK,#[qo,KN,#[qL,qJ,pv 1,qj],qY],%[|#[KU,22,C.x_BadRule,_,C.m_BadRule,qh,_,_]],qu]|#[qp,#[qL,qJ,pv 1,qj]]]]
 rw[0,v,d,1,hv,λu H1 x y s1 hd U=>?_]
 rw[0]
 try dsimp![tC]
 refine XC (i:=1) (d:=y) U rfl λz hz=>?_;cases O:yf d with
 |none=>
  erw[hd.2 O,i,rfl];rw[show z= .int i from hz,0]
  rw[1,0];refine QO (by rw[ub (λz=>by rw[z,0])];rfl) ?_
  exact[1:λe=>kB O e H1 s1]
 |some rs=>
  erw[hd.1 rs O,rfl,rfl];rw[show z= .non from hz,0]
  rw[1,0];refine Qx rfl ?_
  rw[0]
  try dsimp![tC]
  refine XC (i:=0) (d:= .tup (rs.map L2.rowD)) U rfl λq hq=>?_;exact k rs O q H1 s1 hq
abbrev kvB (f:Str->V):oj (Key×V):=BX.map λz=>(Vx z,f z)
def Acs {f:Str->V}:∀{zs:oj Str}{z:Str},z>zs->lh (zs.map λz=>((Vx z:Key),f z)) (Vx z)=u_ (f z)
 |y::ys,z,h=>by
  rw[ur];by_cases e:y=z
  .subst e;exact QU rfl
  .let h':z>ys:=by
    rcases Ab.mp h with rfl|h
    .exact A9 rfl e
    .exact h
   have:=Acs (f:=f) h';unfold lh at this⊢;rw[uS];let e2:decide ((Vx y:Key)=Vx z)=false:=ub λq=>e (UM q);simp![e2];exact this
def Afh {f:Str->V}{u:V}(h:z>BX):mo (kvB f) (Vx z) u=kvB λy=>if y=z then u else f y:=by
 unfold mo;rw[A6]
 .unfold kvB;rw[uR];refine Uz λy _=>?_;by_cases e:y=z
  .simp[e]
  .simp[e]
 .rw[Fc];exact⟨(Vx z,f z),Af.mpr [z:h:1],by simp⟩
abbrev YF (H:Hp)(d:o3)(B:Str->D):Prop:=∃f:Str->V,H d=u_ (.dK (kvB f))/\∀z>BX,Is H (B z) (f z)
abbrev iT (B:Str->D)(z:Str)(e:D):Str->D:=λy=>if y=z then e else B y
variable {H H':Hp}
def YF.same {d:o3}{B:Str->D}(h:YF H d B)(s:ie H H'):YF H' d B:=let⟨f,e,i⟩:=h;[f:s _ _ e:λz hz=>(i z hz).mono s.tk]
def YF.move {d:o3}{B:Str->D}(h:YF H d B)(t:Tk H H')(e:H' d=H d):YF H' d B:=let⟨f,e1,i⟩:=h;[f:e.trans e1:λz hz=>(i z hz).mono t]
def YF.get {d:o3}{B:Str->D}(h:YF H d B)(hz:z>BX):∃v,mW H d (!z) (u_ v)/\Is H (B z) v:=by
 erw[h,f,e,i];rw[_,f z,?_,i z hz];have:=mW.k (k:=(Vx z:Key)) e;rw[show lh (kvB f) (Vx z)=u_ (f z) from Acs hz] at this
 exact this
variable {e:D}
def YF.put {d:o3}{B:Str->D}{u:V}(h:YF H d B)(hz:z>BX)(U:Is H e u):∃kvs,DW H d (!z) u (upd H d (.dK kvs))/\YF (upd H d (.dK kvs)) d (iT B z e)/\Tk H (upd H d (.dK kvs)):=by
 erw[h,f,O,i];refine(kvB λy=>if y=z then u else f y,.inl (_,Vx z,O,1,by show ↑BX<Vw;rw[uF];decide,by rw[Afh hz]),[_:qg:λy hy=>?_],Tk.updD O)
 let t:Tk H (upd H d (.dK (kvB λy=>if y=z then u else f y))):=Tk.updD O
 unfold iT;by_cases c:y=z
 .rw[A6 c,A6 c];exact U.mono t
 .rw[A4 c,A4 c];exact(i y hy).mono t
abbrev xL:oj D->Bool
 | []=>v_| .str _::r=>xL r|_=>Vt
abbrev x9:oj D->oj Str
 | .str z::r=>z::x9 r|_=> []
abbrev b0 (ps:oj Pt):Str:=(ps.getD 0 (.s "")).t
abbrev b1 (ps:oj Pt):Str:=(ps.getD 1 (.s "")).t
abbrev b2 (ps:oj Pt):Str:=(ps.getD 2 (.s "")).t
abbrev C5:D->D
 | .str z=>if ↑z=0 then .non else .str ⟨#[z.cps.getD 0 0]⟩| .tup (x::_)=>x|_=> .non
abbrev MQ:D->D
 | .str z=>if ↑z=0 then .non else .str (GB z (u_ 1) U_)| .tup (_::r)=>¬r|_=> .non
abbrev Sa:D->Nat
 | .str z=>↑z| .tup xs=>↑xs|_=>0
abbrev Aga:D->D->D
 | .tup xs,e=> .tup (xs++ [e])|_,_=> .non
abbrev AdQ:D->D->D
 | .str x,.str y=> .str (x++y)|_,_=> .non
abbrev Agi:D->D->D
 | .str z,.str y=>if ↑y=0 then .non else .tup ((spG z y).map .str)|_,_=> .non
abbrev AdS:D->D->D
 | .tup xs,.str y=>if xL xs=v_ then .str (VF y (x9 xs)) else .non|_,_=> .non
abbrev made (w:Str)(B:Str->D)(own:Str)(ps:oj Pt):D:=
 if w="text" then .str (b1 ps) else if w="self" then .str own else if w="copy" then B (b1 ps) else if w="row" then .tup [] else
 if w="put" then Aga (B (b0 ps)) (B (b1 ps)) else if w="join" then AdQ (B (b0 ps)) (B (b1 ps)) else if w="first" then C5 (B (b1 ps)) else if w="rest" then MQ (B (b1 ps)) else
 if w="size" then .str (VH ((Sa (B (b1 ps)):Nat):Int)) else if w="cut" then Agi (B (b1 ps)) (B (b2 ps)) else AdS (B (b1 ps)) (B (b2 ps))
def QZ {m:Nat}{w:Str}{ps:oj Pt}(h:jH n m (w,ps))(O:(w,ks)>FRM):Xv n m ks ps:=by
 erw[h,U,h1,h2];have:=Lq _ h1 _ O rfl;rw[this,0];exact h2
def Ae6 {m:Nat}{ps:oj Pt}(h:Xv n m [.box] ps):∃x,ps= [.s x]/\x>BX:=by
 match ps,h with
 | [.s x],h=>exact[x:1:h.1]| [.n _],h=>exact h.1.elim
def wY {m:Nat}{ps:oj Pt}(h:Xv n m [.box,.box] ps):∃x y,ps= [.s x,.s y]/\x>BX/\y>BX:=by
 match ps,h with
 | [.s x,.s y],h=>exact(x,y,1,h.1,h.2.1)| [.n _,_],h=>exact h.1.elim| [.s _,.n _],h=>exact h.2.1.elim
def OC {m:Nat}{ps:oj Pt}(h:Xv n m [.box,.box,.box] ps):∃x y z,ps= [.s x,.s y,.s z]/\x>BX/\y>BX/\z>BX:=by
 match ps,h with
 | [.s x,.s y,.s z],h=>exact(x,y,z,1,h.1,h.2.1,h.2.2.1)| [.n _,_,_],h=>exact h.1.elim| [.s _,.n _,_],h=>exact h.2.1.elim| [.s _,.s _,.n _],h=>exact h.2.2.1.elim
def Ae5 {m:Nat}{ps:oj Pt}(h:Xv n m [.box,.words] ps):∃x y,ps= [.s x,.s y]/\x>BX/\↑y<=m/\y.cps.toList.all QD=true:=by
 match ps,h with
 | [.s x,.s y],h=>exact(x,y,1,h.1,h.2.1)| [.n _,_],h=>exact h.1.elim| [.s _,.n _],h=>exact h.2.1.elim
def AcU {m:Nat}{ps:oj Pt}(h:Xv n m [.box,.line] ps):∃x,∃i:Int,ps= [.s x,.n i]/\x>BX/\1<=i/\i<=n:=by
 match ps,h with
 | [.s x,.n i],h=>exact(x,i,1,h.1,h.2.1)| [.n _,_],h=>exact h.1.elim| [.s _,.s _],h=>exact h.2.1.elim
def AcV {m:Nat}{ps:oj Pt}(h:Xv n m [.box,.box,.line] ps):∃x y,∃i:Int,ps= [.s x,.s y,.n i]/\x>BX/\y>BX/\1<=i/\i<=n:=by
 match ps,h with
 | [.s x,.s y,.n i],h=>exact(x,y,i,1,h.1,h.2.1,h.2.2.1)| [.n _,_,_],h=>exact h.1.elim| [.s _,.n _,_],h=>exact h.2.1.elim| [.s _,.s _,.s _],h=>exact h.2.2.1.elim
abbrev Mb (H:Hp)(t:o3)(ps:oj Pt):Prop:=Is H (.tup (ps.map Pt.d)) (-t)
abbrev Tr (B:Str->D):Prop:=∀z>BX,isT (B z)=v_
inductive X0 (w:Str):Sp
 |mk (d t:Addr)(own:Str)(B:Str->D)(ps:List Pt)(n:Nat)(_:vs= [-d,!own,-t])(_:YF H d B)(_:Tr B)(_:↑own<=100)(_:jH n 300 (w,ps))(_:Mb H t ps)(_:∀(v:V)(H':Hp),ie H H'->Is H' (made w B own ps) v->Q v H')
variable {Q:VK}
def L4 {K:o0}{t:o3}{ps:oj Pt}(h:Mb H t ps)(e:ps[i]? =u_ (.s z))(q:Q (!z) H):AaB K (-t) (.int (i:Int)) H Q:=
 XC (d:= !z) h (Qk (by rw[uG,e];rfl)) λx O=>by erw[O,rfl,_,<-q]
def Jy {d:D}(h:isT d=v_):dp d<=12:=by
 unfold isT at h;rw[uB] at h;exact uq h.2
def Sf {d:D}(h:isT d=v_):sz d<=600:=by
 unfold isT at h;rw[uB,uB] at h;exact uq h.1.2
def jr {d:D}(h:isT d=v_):Sa d<=600:=by
 let h1:=Sf h;cases d with
 |str z=>simp![sz] at h1;show ↑z<=600;omega|tup xs=>
  unfold isT at h;rw[uB,uB] at h;let h2:=h.1.1;simp![iW,uB] at h2;have:=uq h2.1;show ↑xs<=600;omega
 |_=>exact uN _
def BW (z y:Str):↑(z++y:Str)=↑z+↑y:=by
 show(z.cps++y.cps).size=z.cps.size+y.cps.size;exact TK
def si {K:o0}{t d:o3}{B:Str->D}{ps:oj Pt}(O:YF H d B)(h:Mb H t ps)(e:ps[i]? =u_ (.s z))(hz:z>BX)(q:∀v,Is H (B z) v->Q v H):AaB K (-t) (.int (i:Int)) H (λy H2=>Sz Q (-d) y H2):=by
 erw[O.get hz,v,U,iv,<-L4 h e (d,v,1,U,q v iv)]
def AaT:#[T,1,a.Xf,a.WD,#[11],(X0 "text")]:=by
 rw[9,T.lH,sB]
 erw[h,d,t,own,B,ps,n,rfl,hB,hT,ho,O,U,k];rw[3,%[|#[qp,#[qL,qJ,pv 2,qj]]]]
 erw[Ae5 (QZ O ()),x,y,rfl,hx,hy,hs]
 exact⟨0,L4 (i:=1) U rfl (k _ H (ie.refl _) ⟨1,yA (by show ↑y<=1000;omega)⟩)⟩
def AaW:#[T,1,a.Xd,a.Wx,#[11],(X0 "self")]:=by
 rw[9,T.lJ,sE,U]
 erw[h,d,t,own,B,ps,n,rfl,hB,hT,ho,O,hp,k];rw[3,%[|#[qp,pv 1]]]
 exact⟨0,k _ H (ie.refl _) ⟨1,yA (by show ↑own<=1000;omega)⟩⟩
def Ads:#[T,1,a.Zc,a.KL,#[11],(X0 "row")]:=by
 rw[9,T.l8,Bi]
 erw[h,d,t,own,B,ps,n,rfl,hB,hT,ho,U,hp,k];rw[3,%[|#[qp,#[qE,qd]]]]
 exact[(sml rfl):λl O=>k _ _ (qf O _) (Is.new (ds:= []) rfl O)]
def Abf:#[T,1,a.XM,a.wO,#[11],(X0 "copy")]:=by
 rw[9,T.lR,sM,U]
 erw[h,d,t,own,B,ps,n,rfl,hB,hT,ho,O,hp,k];rw[3,%[|#[qp,#[Qq,6,Qs U,pv 0,#[qL,qJ,pv 2,qj],(λ_ _=>rfl)]]]]
 erw[wY (QZ O ()),x,y,rfl,hx,hy]
 rw[0,0];exact si (i:=1) hB hp rfl hy λv iv=>k _ H (ie.refl _) iv
def Adt:#[T,1,a.Zi,a.ku,#[11],(X0 "put")]:=by
 rw[9,T.me,Wj]
 erw[h,d,t,own,B,ps,n,rfl,hB,hT,ho,aa,O,k];rw[3,%[#[qy,(3),Wj.nd,#[Qq,pv 0,#[qL,qJ,pv 2,qj]]],#[qK,#[Qv,#[Qh,#[qw,#[Qb,2,rfl],T.qR,uW,#v[pv 3,#[Q6,.ty "tuple",T.QI,vx]]]]],%[|#[qp,qY]],qu]|#[qp,#[qV,XI,pv 3,#[qE,#v[#[Qq,pv 0,#[qL,qJ,pv 2,qj]]]]]]]]
 erw[wY (QZ aa ()),x,y,rfl,hx,hy]
 rw[0,0];refine si (i:=0) hB O rfl hx λv iv=>?_
 rw[0,v,"tuple",tyD (B x),Zv (B x),1,iv.ty,XL _,0];let U:=jr (hT x hx);let k':∀(v:V) (H':Hp),ie H H'->Is H' (Aga (B x) (B y)) v->Q v H':=k;generalize B x=dx at iv k' U⊢;cases dx with
 |tup xs=>
  refine iX ?_;erw[iv,r,rs,rfl,er,ir]
  rw[0,0,0];refine si (i:=1) hB O rfl hy λu iu=>?_
  rw[_,(sml rfl),λl hl=>(r,l,rs,[u],1,1,SqT.of (qf hl _ _ _ er),SqT.of qg,?_,λe=>?_,λ_ e=>(by rw[e,0]),λ_ _ p O=>?_)]
  .rw[↑ir];have:↑xs<=600:=U;exact yA (by show ↑xs+1<=1000;omega)
  .subst e;let e2:xs= []:=vD ir.length.symm;subst e2;exact k' _ _ (qf hl _) (Is.new (ds:= [B y]) (IsL.one iu) hl)
  .let t1:Tk H (upd H l (-[u])):=(qf hl _).tk;exact k' _ _ ((qf hl _).trans (qf O _)) (Is.new (ds:=xs++ [B y]) ((ir.mono t1).append (IsL.one (iu.mono t1))) O)
 |_=>exact lG (k' _ H (ie.refl _) rfl)
def Abb:#[T,1,a.Xj,a.WN,#[11],(X0 "join")]:=by
 rw[9,T.lO,JE]
 erw[h,d,t,own,B,ps,n,rfl,hB,hT,ho,aa,hp,k];rw[3,%[#[qy,(3),JE.nd,#[Qq,pv 0,#[qL,qJ,pv 2,qj]]],#[qy,(4),JE.nd,#[Qq,pv 0,#[qL,qJ,pv 2,qj]]],@qK _ _ _ _ _ _ _ _ #[wb,#[Qv,#[Qh,#[qw,#[Qb,2,rfl],T.qR,uW,#v[pv 3,#[Q6,.ty "str",T.zB,V2]]]]],#[xY,#[Qv,#[Qh,#[qw,#[Qb,2,rfl],T.qR,uW,#v[pv 4,#[Q6,.ty "str",T.zB,V2]]]]]]].pt %[|#[qp,qY]] qu|#[qp,#[qV,Ql,pv 3,pv 4]]]]
 erw[wY (QZ aa ()),x,y,rfl,hx,hy]
 rw[0,0];refine si (i:=0) hB hp rfl hx λv iv=>?_
 rw[0,0];refine si (i:=1) hB hp rfl hy λu iu=>?_;let lx:=jr (hT x hx);let ly:=jr (hT y hy);let O:∀(v:V) (H':Hp),ie H H'->Is H' (AdQ (B x) (B y)) v->Q v H':=k;generalize B x=dx at iv O lx⊢;generalize B y=U at iu O ly⊢
 rw[0,v,"str",tyD dx,isStr dx,1,iv.ty,j0 _,0];cases dx with
 |str z=>
  refine iX (0,u,"str",tyD U,isStr U,1,iu.ty,j0 _,0,?_);cases U with
  |str z2=>
   refine iX ?_;erw[iv,rfl,_];erw[iu,rfl,_];let h1:↑z<=600:=lx;let h2:↑z2<=600:=ly;exact(0,0,_,0,1,nj (),O _ H (ie.refl _) ⟨1,by rw[show(z++z2).length=↑z+↑z2 from BW z z2];exact nj ()⟩)
  |_=>exact lG (O _ H (ie.refl _) rfl)
 |_=>exact lG (O _ H (ie.refl _) (by cases U<;>rfl))
def Nm:#[T,1,a.J4,a.ZA,#[11],(X0 "first")]:=by
 rw[9,T.li,zc]
 erw[h,d,t,own,B,ps,n,rfl,hB,hT,ho,aa,hp,k];rw[3,%[#[qy,(3),zc.nd,#[Qq,pv 0,#[qL,qJ,pv 2,qj]]]|#[qp,#[yd,#[qo,qax,#[qw,JS,T.yt,uK,#v[pv 3]],qj],#[qL,Jz,pv 3,qj],qY]]]]
 erw[wY (QZ aa ()),x,y,rfl,hx,hy]
 rw[0,0];refine si (i:=1) hB hp rfl hy λv U=>?_;let ly:=jr (hT y hy);let hg:=hT y hy;let O:∀(v:V) (H':Hp),ie H H'->Is H' (C5 (B y)) v->Q v H':=k;generalize B y=dy at U O ly hg⊢;cases dy with
 |str z=>
  erw[U,rfl,hz]
  rw[0,.inl (z,1,hz,_,0,1,0,?_)];refine lz (λc=>?_) (λc=>?_)
  .let h0:1<=↑z:=by have:=uq c;omega
   let k2:Is H (C5 (!z)) (.str ⟨#[z.cps.getD 0 0]⟩):=by
    show Is H (if ↑z=0 then D.non else _) _
    rw[A4 ()]
    exact⟨1,yA (by show 1<=1000;decide)⟩
   exact[0:.inr (.inr (z,(0),0,1,hz,C4 h0,O _ H (ie.refl _) k2))]
  .let h0:↑z=0:=by
    rcases FK ↑z with e|e
    .exact e
    .exact A9 (ua ()) c
   exact O _ H (ie.refl _) (by show Is H (if ↑z=0 then D.non else _) _;rw[A6 h0];rfl)
 |tup xs=>
  let ac:=U;erw[ac,r,rs,rfl,er,ir]
  rw[0,.inr (r,rs,1,.inr (SqT.of er),λ_=>(_,0,1,0,?_))];let hl:=↑ir;cases xs with
  |nil=>exact Qx (ub (by rw[hl];decide)) (O _ H (ie.refl _) rfl)|cons e es=>
   refine QO (ua (by rw[hl,uw];omega)) ?_
   exact[0:.inr (.inl (XC (i:=0) (d:=e) U (Qk (j:=0) rfl) λq hq=>O _ H (ie.refl _) hq))]
 |_=>simp[isT,iW] at hg
def KK:∀xs:oj D,xL xs=xs.all isStr
 | []=>rfl| .str _::r=>by show xL r=_;rw[KK r];rfl| .non::_| .bl _::_| .int _::_| .lst::_| .dct::_| .tup _::_=>rfl
def Ce:∀{xs:oj D},xL xs=v_->xs=(x9 xs).map D.str
 | [],_=>rfl| .str z::r,h=>by
  show D.str z::r=D.str z::(x9 r).map D.str;rw[<-Ce (show xL r=v_ from h)]
def IsL.strs {H:Hp}:∀{l:oj Str}{vs:oj V},L2.IsL H (l.map D.str) vs->vs=l.map V.str
 | [],_,h=>h|_::_,_,h=>by
  erw[h,v,r,rfl,h1,h2];rw[IsL.strs h2,h1.1];rfl
def IsL.ofStrs {H:Hp}:∀{l:oj Str},(∀z>l,↑z<=Vw)->L2.IsL H (l.map D.str) (l.map V.str)
 | [],_=>rfl|z::l,h=>(_,0,[1:h z uj],IsL.ofStrs λy O=>h y (ui _ O))
def Cd:∀(l:oj Str),(l.map (·.length)).sum+↑l=szL (l.map D.str)
 | []=>rfl|z::l=>by
  have:=Cd l;simp![ur,V0,uw,szL,sz];omega
def IW (sep:Str):∀(l:oj Str),↑(VF sep l)<=(l.map (·.length)).sum+↑l*↑sep
 | []=>uN _| [x]=>by simp[VF]|x::y::r=>by
  let O:=IW sep (y::r);let e:↑(VF sep (x::y::r))=↑x+↑sep+↑(VF sep (y::r)):=by
   show((x.cps++sep.cps)++(VF sep (y::r)).cps).size=_;rw[TK,TK]
   rfl
  rw[e,ur,V0,uw,Pd];omega
def AaZ:#[T,1,a.XN,a.WZ,#[11],(X0 "rest")]:=by
 rw[9,T.lK,ZQ]
 erw[h,d,t,own,B,ps,n,rfl,hB,hT,ho,aa,U,k];rw[3,%[#[qy,(3),ZQ.nd,#[Qq,pv 0,#[qL,qJ,pv 2,qj]]]|#[qp,#[yd,#[qo,qax,#[qw,JS,T.yt,uK,#v[pv 3]],qj],#[Y7,AcT,pv 3,#[jZ,qj],J2],qY]]]]
 erw[wY (QZ aa ()),x,y,rfl,hx,hy]
 rw[0,0];refine si (i:=1) hB U rfl hy λv iv=>?_;let ly:=jr (hT y hy);let hg:=hT y hy;let O:∀(v:V) (H':Hp),ie H H'->Is H' (MQ (B y)) v->Q v H':=k;generalize B y=dy at iv O ly hg⊢;cases dy with
 |str z=>
  erw[iv,rfl,hz]
  rw[0,.inl (z,1,hz,_,0,1,0,?_)];refine lz (λc=>?_) (λc=>?_)
  .let h0:1<=↑z:=by have:=uq c;omega
   let k2:Is H (MQ (!z)) (.str (GB z (u_ 1) U_)):=by
    show Is H (if ↑z=0 then D.non else _) _
    rw[A4 ()]
    exact[1:uP (PN z _ _) hz]
   exact[0:0:.inl (z,1,hz,O _ H (ie.refl _) k2)]
  .let h0:↑z=0:=by
    rcases FK ↑z with e|e
    .exact e
    .exact A9 (ua ()) c
   exact O _ H (ie.refl _) (by show Is H (if ↑z=0 then D.non else _) _;rw[A6 h0];rfl)
 |tup xs=>
  let ac:=iv;erw[ac,r,rs,rfl,er,ir]
  rw[0,.inr (r,rs,1,.inr (SqT.of er),λ_=>(_,0,1,0,?_))];let hl:=↑ir;cases xs with
  |nil=>exact Qx (ub (by rw[hl];decide)) (O _ H (ie.refl _) rfl)|cons e es=>
   refine QO (ua (by rw[hl,uw];omega)) ?_
   erw[ir,v0,r0,rfl,i0,i1]
   rw[0,0,.inr (r,v0::r0,1,SqT.of er,λh=>?_,λ_ p U=>?_)]
   .exfalso;have:=h.1;simp[HT.sIx] at this
   .let e1:l6 (v0::r0) (u_ 1) U_=r0:=by
     rw[show(u_ (1:Int))=u_ (((1:Nat)):Int) from rfl,AL (by simp)]
     rfl
    rw[e1];exact O _ _ (qf U _) (Is.new i1 U)
 |_=>simp[isT,iW] at hg
def AaV:#[T,1,a.Xa,a.wy,#[11],(X0 "size")]:=by
 rw[9,T.lI,sD]
 erw[h,d,t,own,B,ps,n,rfl,hB,hT,ho,O,hp,k];rw[3,%[|#[qp,#[qX,Yo,T.zB,V2,#v[#[qw,JS,T.yt,uK,#v[#[Qq,pv 0,#[qL,qJ,pv 2,qj]]]]]]]]]
 erw[wY (QZ O ()),x,y,rfl,hx,U]
 rw[0,0];refine si (i:=1) hB hp rfl U λv iv=>?_;let ly:=jr (hT y U);let hg:=hT y U;let k':∀(v:V) (H':Hp),ie H H'->Is H' (.str (VH ((Sa (B y):Nat):Int))) v->Q v H':=k;generalize B y=dy at iv k' ly hg⊢;let sm:∀n:Nat,n<=600->((n:Int)).natAbs.log2<1920/\↑((VH (n:Int):Str))<=sizeLine:=by
  intro n hn;let h2:=Vc ((n:Int)).natAbs;exact[():int_text_fits ()]
 cases dy with
 |str z=>
  erw[iv,rfl,hz];let h2:=sm ↑z ly;exact .inl (z,1,hz,0,h2.1,k' _ H (ie.refl _) [1:h2.2])
 |tup xs=>
  let aa:=iv;erw[aa,r,rs,rfl,er,ir];let h2:=sm ↑xs ly;refine .inr (r,rs,1,.inr (SqT.of er),λ_=>[0:?_:?_])
  .rw[↑ir];exact h2.1
  .rw[↑ir];exact k' _ H (ie.refl _) [1:h2.2]
 |_=>simp[isT,iW] at hg
def Adw:#[T,1,a.zX,a.KH,#[11],(X0 "cut")]:=by
 rw[9,T.mh,Xk]
 erw[h,d,t,own,B,ps,n,rfl,hB,hT,ho,aa,hp,k];rw[3,%[#[qy,(3),Xk.nd,#[Qq,pv 0,#[qL,qJ,pv 2,qj]]],#[qy,(4),Xk.nd,#[Qq,pv 0,#[qL,qJ,pv 2,qj]]],@qK _ _ _ _ _ _ _ _ #[wb,#[Qv,#[Qh,#[qw,#[Qb,2,rfl],T.qR,uW,#v[pv 3,#[Q6,.ty "str",T.zB,V2]]]]],#[wb,#[Qv,#[Qh,#[qw,#[Qb,2,rfl],T.qR,uW,#v[pv 4,#[Q6,.ty "str",T.zB,V2]]]]],#[xY,#[qo,Qn,pv 4,qh]]]].pt %[|#[qp,qY]] qu|#[qp,#[qX,Qd,T.QI,vx,#v[#[Jm,uZ,UF,UG,IF,pv 3,#v[pv 4]]]]]]]
 erw[OC (QZ aa ()),x0,x,y,rfl,ac,hx,hy]
 rw[0,0];refine si (i:=1) hB hp rfl hx λv iv=>?_
 rw[0,0];refine si (i:=2) hB hp rfl hy λu iu=>?_;let lx:=jr (hT x hx);let ly:=jr (hT y hy);let U:∀(v:V) (H':Hp),ie H H'->Is H' (Agi (B x) (B y)) v->Q v H':=k;generalize B x=dx at iv U lx⊢;generalize B y=dy at iu U ly⊢
 rw[0,v,"str",tyD dx,isStr dx,1,iv.ty,j0 _,0];cases dx with
 |str z=>
  refine iX (0,u,"str",tyD dy,isStr dy,1,iu.ty,j0 _,0,?_);cases dy with
  |str O=>
   refine iX ?_;erw[iv,rfl,_];erw[iu,rfl,_];let h1:↑z<=600:=lx;let h2:↑O<=600:=ly
   rw[0,1,0];refine lz (λc=>?_) (λc=>?_)
   .let e:O="":=by have:=uq c;injection this
    subst e;exact U _ H (ie.refl _) rfl
   .let h3:↑O≠0:=λh=>c (ua (by
     have:O="":=by
      have h4:O.cps= #[]:=Array.eq_empty_of_size_eq_zero h;rw[O,0];simp only at h4;subst h4
      rw[12]
     rw[this]))
    rw[0,1,0,z,O,1,1,(),(),λp hp=>[p:0:.inl [SqL.of qg:λl hl=>?_]]]
    let s1:ie H (upd H p (.lst ((spG z O).map V.str))):=qf hp _;refine U _ _ (s1.trans (qf hl _)) ?_;show Is _ (if ↑O=0 then D.non else .tup ((spG z O).map D.str)) _
    rw[A4 h3];exact Is.new (IsL.ofStrs λq hq=>yA (by have:=Aan hq;omega)) hl
  |_=>exact lG (U _ H (ie.refl _) rfl)
 |_=>exact lG (U _ H (ie.refl _) (by cases dy<;>rfl))
def Abd:#[T,1,a.Xy,a.wW,#[11],(X0 "glue")]:=by
 rw[9,T.lQ,J9]
 erw[h,d,t,own,B,ps,n,rfl,hB,hT,ho,ae,hp,k];rw[3,%[#[qy,(3),J9.nd,#[Qq,pv 0,#[qL,qJ,pv 2,qj]]],#[qy,(4),J9.nd,#[Qq,pv 0,#[qL,qJ,pv 2,qj]]],@qK _ _ _ _ _ _ _ _ #[wb,#[Qv,#[Qh,#[qw,#[Qb,2,rfl],T.qR,uW,#v[pv 3,#[Q6,.ty "tuple",T.QI,vx]]]]],#[xY,#[Qv,#[Qh,#[qw,#[Qb,2,rfl],T.qR,uW,#v[pv 4,#[Q6,.ty "str",T.zB,V2]]]]]]].pt %[|#[qp,qY]] qu,#[qK,#[Qv,#[Qh,#[qw,#[wG,1,rfl],T.z_all,r9,#v[#[zW,["part"],[],Acn,#[KM,4,pv 3],(λ_ _ _ _ _ _=>#[qW,(0),(show VZ (["part"]:oj Str) by rw[12])]),(λ_ _ _ _ _ _=>#[qw,#[Qb,2,rfl],T.qR,uW,#v[pv 0,#[Q6,.ty "str",T.zB,V2]]])]]]]],%[|#[qp,qY]],qu]|#[qp,#[Jm,uZ,Ul,Um,Nz,pv 4,#v[pv 3]]]]]
 erw[OC (QZ ae ()),x0,x,y,rfl,ah,hx,hy]
 rw[0,0];refine si (i:=1) hB hp rfl hx λv iv=>?_
 rw[0,0];refine si (i:=2) hB hp rfl hy λu iu=>?_;let lx:=jr (hT x hx);let hg:=hT x hx;let ly:=jr (hT y hy);let U:∀(v:V) (H':Hp),ie H H'->Is H' (AdS (B x) (B y)) v->Q v H':=k;generalize B x=dx at iv U lx hg⊢;generalize B y=dy at iu U ly⊢
 rw[0,v,"tuple",tyD dx,Zv dx,1,iv.ty,XL _,0];cases dx with
 |tup xs=>
  refine iX (0,u,"str",tyD dy,isStr dy,1,iu.ty,j0 _,0,?_);cases dy with
  |str z2=>
   refine iX ?_;erw[iv,r,rs,rfl,er,ir];erw[iu,rfl,_];let h1:↑xs<=600:=lx;let h2:↑z2<=600:=ly
   rw[0,r,rs,1,SqT.of er,λak A0 af=>?_];refine BH (tl:= []) (λd=> .bl (isStr d)) er ir (nj ()) af (λd0 x0 H3 R al s3 i3 q=>(0,x0,"str",tyD d0,isStr d0,1,i3.ty,j0 _,q _ H3 (ie.refl _) rfl)) λH1 ys s1 l1 i1=>?_
   let ey:ys=(xs.map isStr).map V.bl:=IsL.bls (by rwa[uR])
   subst ey
   rw[_,A0,xs.map isStr,1,SqL.of l1,0];let aa:(xs.map isStr).all id=xL xs:=by rw[KK,US];rfl
   rw[aa];cases O:xL xs with
   |false=>exact lG (U _ H1 s1 (by show Is H1 (if xL xs=v_ then _ else D.non) _;rw[O];rfl))|true=>
    let ac:=Ce O;let ag:rs=(x9 xs).map V.str:=IsL.strs (by rwa[<-ac])
    let hsz:=Sf hg;let ad:=Cd (x9 xs);rw[<-ac] at ad;simp![sz] at hsz;let am:↑(x9 xs)*↑z2<=600*600:=Nat.mul_le_mul () h2
    let hj:=IW z2 (x9 xs);refine iX (0,1,0,z2,r,x9 xs,1,1,SqT.of (by rw[s1 _ _ er,ag]),(),?_)
    refine U _ H1 s1 ?_;show Is H1 (if xL xs=v_ then .str (VF z2 (x9 xs)) else D.non) _
    rw[O];exact[1:nj ()]
  |_=>exact lG (U _ H (ie.refl _) rfl)
 |_=>exact lG (U _ H (ie.refl _) (by cases dy<;>rfl))
abbrev Sd (w:Str)(B:Str->D)(ps:oj Pt):Bool:=if w="like" then eqD (B (b0 ps)) (B (b1 ps)) else if w="rowed" then Zv (B (b0 ps)) else if w="none" then decide (Sa (B (b0 ps))=0) else v_
abbrev JMP:oj Str:= ["go","like","rowed","none"]
abbrev ASK:oj Str:= ["ask","has","names"]
abbrev flt (w:Str):D:=-[-"fault",!w]
abbrev nV (w:Str)(held:D):D:=if w="names" then(if isStr held=v_ then .tup [-"asks",-[-"names",held]] else flt "kind") else if mO held=v_ then .tup [-"asks",-[.str (if w="ask" then "thing" else "has"),held]] else flt "name"
inductive Aad:Sp
 |mk (d t:Addr)(w:Str)(B:Str->D)(ps:List Pt)(n:Nat)(_:vs= [-d,!w,-t])(_:YF H d B)(_:Tr B)(_:w>JMP)(_:jH n 300 (w,ps))(_:Mb H t ps)(_:Q (.bl (Sd w B ps)) H)
inductive MH:Sp
 |mk (w:Str)(v:V)(d:D)(_:vs= [!w,v])(_:w>ASK)(_:Is H d v)(_:∀(u:V)(H':Hp),ie H H'->Is H' (nV w d) u->Q u H')
mutual
theorem Lj:∀{d:D},iW d=v_->puD d=v_
 | .str _,_=>rfl| .tup xs,h=>by
  simp![iW,uB] at h;show puL xs=v_;exact goodL_pu h.2
 | .non,h| .bl _,h| .int _,h| .lst,h| .dct,h=>by simp[iW] at h
theorem goodL_pu:∀{xs:oj D},goodL xs=v_->puL xs=v_
 | [],_=>rfl|x::r,h=>by
  simp![goodL,uB] at h;simp![puL,Lj h.1,goodL_pu h.2,V1]
end
def AbG {d:D}(h:iW d=v_):trD d=true:=by
 cases d with
 |str z=>rfl|tup xs=>exact Lj (d:=¬xs) h|_=>simp[iW] at h
def Q3 {d:D}(h:isT d=v_):iW d=true:=by
 unfold isT at h;rw[uB,uB] at h;exact h.1.1
def Aw {d:D}(h:isT d=v_):trD d=true:=AbG (Q3 h)
def Aba:#[T,1,a.JQ,a.JD,["boxes","word","parts"],Aad]:=by
 rw[9,T.mn,wc]
 erw[h,d,t,w,B,ps,n,rfl,hB,hT,hw,U,hp,k];rw[3,%[#[qK,#[qo,Qn,pv 1,qh],%[|#[qp,#[yQ,#[E2,1,hr.units],#[Qq,pv 0,#[qL,qJ,pv 2,qj]],#[Qq,pv 0,#[qL,qJ,pv 2,qj]],qx _]]],qu],#[qK,#[qo,Qn,pv 1,qh],%[|#[qp,#[qw,#[Qb,2,rfl],T.qR,uW,#v[#[Qq,pv 0,#[qL,qJ,pv 2,qj]],#[Q6,.ty "tuple",T.QI,vx]]]]],qu],#[qK,#[qo,Qn,pv 1,qh],%[|#[qp,#[yQ,Qn,#[qw,JS,T.yt,uK,#v[#[Qq,pv 0,#[qL,qJ,pv 2,qj]]]],qj,qx _]]],qu]|#[qp,jC]]]
 rw[0,1,0];simp![JMP,uH,uI,uU] at hw;rcases hw with rfl|rfl|rfl|rfl
 .refine Qx () ?_
  rw[0,1,0,Qx () ?_]
  rw[0,1,0,Qx () ?_]
  exact k
 .refine QO () ?_
  erw[AcV (QZ U ()),x,y,i,rfl,O,hy,_]
  rw[0,0]
  try dsimp![tC]
  refine si (i:=0) hB hp rfl O λv iv=>?_
  rw[0,0]
  try dsimp![tC]
  refine si (i:=1) hB hp rfl hy λu iu=>?_
  rw[_,B x,B y,iv,iu,Aw (hT x O),Aw (hT y hy),?_,k]
  .have:=Jy (hT x O);omega
 .refine Qx () ?_
  rw[0,1,0,QO () ?_]
  erw[AcU (QZ U ()),x,i,rfl,O,_]
  rw[0,0];refine si (i:=0) hB hp rfl O λv iv=>?_;exact(v,"tuple",tyD (B x),Zv (B x),1,iv.ty,XL _,k)
 .refine Qx () ?_
  rw[0,1,0,Qx () ?_]
  rw[0,1,0,QO () ?_]
  erw[AcU (QZ U ()),x,i,rfl,O,_]
  rw[0,0];refine si (i:=0) hB hp rfl O λv iv=>?_;let k':Q (.bl (decide (Sa (B x)=0))) H:=k;let hg:=hT x O;generalize B x=dx at iv k' hg⊢;let hn:∀n:Nat,decide (V.int (n:Int)=V.int 0)=decide (n=0):=λn=>by
   rw[vc];constructor
   .intro h;injection h with h;omega
   .rintro rfl;rfl
  cases dx with
  |str z=>
   erw[iv,rfl,hz];refine .inl (z,1,hz,1,?_);rw[hn];exact k'
  |tup xs=>
   erw[iv,r,rs,rfl,er,ir];refine .inr (r,rs,1,.inr (SqT.of er),λ_=>[1:?_]);rw[hn,↑ir];exact k'
  |_=>simp[isT,iW] at hg
def Nr:#[T,2,a.Ji,a.Jd,["word","held"],MH]:=by
 let Q7:=#[Zf,T];rw[9,T.lX,Zs]
 erw[h,w,v,d,rfl,hw,iv,k];rw[3,%[#[qK,#[qo,Qn,pv 0,qh],%[|#[qp,#[yd,#[Qh,#[qw,#[Qb,2,rfl],T.qR,uW,#v[pv 1,#[Q6,.ty "str",T.zB,V2]]]],#[qE,#v[qh,#[qE,#v[qh,pv 1]]]],#[qE,#v[qh,qh]]]]],qu],#[qK,#[Qv,#[Qh,#[qr,Q7,#[20],T.iV,qG,#v[pv 1]]]],%[|#[qp,#[qE,#v[qh,qh]]]],qu]|#[qp,#[qE,#v[qh,#[qE,#v[#[yd,#[qo,Qn,pv 0,qh],qh,qh],pv 1]]]]]]]
 let two:(2:Nat)<=sizeLine:=by decide
 let st:∀{H:Hp} (z:Str),↑z<=100->Is H (!z) (!z):=λz hz=>[1:yA ()]
 let fl:∀(z:Str) (H:Hp) (l:o3),↑z<=100->H l=U_->Is (upd H l (-[-"fault",!z])) (flt z) (-l):=λz H l hz U=>Is.new (ds:= [-"fault",!z]) (_,0,st _ (),_,0,st _ hz,1) U
 rw[0,1,0];by_cases c:w="names"
 .subst c;refine QO () ?_
  let ea:nV "names" d=if isStr d=v_ then .tup [-"asks",-[-"names",d]] else flt "kind":=by unfold nV;rw[A6 rfl]
  rw[ea] at k
  rw[0,v,"str",tyD d,isStr d,1,iv.ty,j0 _,0];cases hs:isStr d with
  |true=>
   rw[hs] at k;refine lG [0:two:λl U=>[two:λl2 O=>?_]];let t1:ie H (upd H l (-[-"names",v])):=qf U _;refine k _ _ (t1.trans (qf O _)) ?_;exact Is.new (ds:= [-"asks",-[-"names",d]]) (_,0,st _ (),_,0,Is.new (ds:= [-"names",d]) (_,0,st _ (),_,0,iv,1) U,1) O
  |false=>
   rw[hs] at k;exact iX [two:λl U=>k _ _ (qf U _) (fl "kind" H l () U)]
 .refine Qx (ub λh=>c (by injection h)) ?_
  let ea:nV w d=if mO d=v_ then .tup [-"asks",-[.str (if w="ask" then "thing" else "has"),d]] else flt "name":=by unfold nV;rw[A4 c]
  rw[ea] at k
  rw[0,v,d,1,iv,λH1 s1=>[0:?_]];cases hs:mO d with
  |false=>
   rw[hs] at k;exact lG [two:λl U=>k _ _ (s1.trans (qf U _)) (fl "name" H1 l () U)]
  |true=>
   rw[hs] at k;refine iX (0,1,0,?_);let aa:∀z:Str,↑z<=100->z=(if w="ask" then("thing":Str) else "has")->∀l,H1 l=U_->∀l2,(upd H1 l (-[!z,v])) l2=U_->Q (-l2) (upd (upd H1 l (-[!z,v])) l2 (-[-"asks",-l])):=by
    intro z hz ez l U l2 O;let t1:ie H1 (upd H1 l (-[!z,v])):=qf U _;refine k _ _ (s1.trans (t1.trans (qf O _))) ?_;rw[<-ez];exact Is.new (ds:= [-"asks",-[!z,d]]) (_,0,st _ (),_,0,Is.new (ds:= [!z,d]) (_,0,st _ hz,_,0,iv.mono s1.tk,1) U,1) O
   refine lz (λc2=>?_) (λc2=>?_)
   .let e:w="ask":=by have:=uq c2;injection this
    exact⟨0,two,λl U=>⟨two,λl2 O=>aa "thing" () (by rw[A6 e]) l U l2 O⟩⟩
   .let e:w≠"ask":=λe=>c2 (ua (by rw[e]))
    exact⟨0,two,λl U=>⟨two,λl2 O=>aa "has" () (by rw[A4 e]) l U l2 O⟩⟩
end
structure Mc where
 (x db dg:o3)
 rs:oj Rw
 own:Str
structure Rn where
 B:Str->D
 p:Int
 n:Nat
 gs:oj D
 th:D
abbrev MTH:oj Str:= ["now","answer","asked","lines","copy","go_on","is_waiting","do_row","hold"]
structure Fl (fs:oj (Str×V))(rv ru:V)(own:Str)(db dg:o3)(place:Int)(done:Nat)(tv:V):Prop where
 rows:fs.lookup ("rows":Str)=u_ rv
 rule:fs.lookup ("rule":Str)=u_ ru
 own:fs.lookup ("own":Str)=u_ (!own)
 boxes:fs.lookup ("boxes":Str)=u_ (-db)
 place:fs.lookup ("place":Str)=u_ (.int place)
 done:fs.lookup ("done":Str)=u_ (.int (done:Int))
 given:fs.lookup ("given":Str)=u_ (-dg)
 there:fs.lookup ("there":Str)=u_ tv
 meth:∀m>MTH,fs.lookup m=U_
 len:↑fs<=20
def Y6 {f:Str}{v:V}:∀{fs:oj (Str×V)}{u:V},fs.lookup f=u_ u->↑(iH f v fs)=↑fs
 |(g,x)::r,u,h=>by
  unfold iH;by_cases c:g=f
  .rw[A6 c];rfl
  .rw[A4 c,uw,uw];let e:(f==g)=false:=by simp;exact λz=>c z.symm
   rw[vm,e] at h;rw[Y6 (u:=u) h]
 | [],u,h=>by simp at h
section
variable {fs:oj (Str×V)}{rv ru:V}{own:Str}{db dg:o3}{place:Int}{done:Nat}{tv:V}
def Fl.set_there {u:V}(h:Fl fs rv ru own db dg place done tv):Fl (iH "there" (u) fs) rv ru own db dg place done u:=by
 refine(?_,?_,?_,?_,?_,?_,?_,?_,λm hm=>?_,by rw[Y6 h.there];exact h.len)
 all_goals rw[qM]
 all_goals first|rw[A6 rfl]|(rw[A4 ()];first|exact h.rows|exact h.rule|exact h.own|exact h.boxes|exact h.place|exact h.done|exact h.given|exact h.there)|(rw[A4 (λe=>by subst e;revert hm;rw[12])];exact h.meth m hm)
def Fl.set_place {q:Int}(h:Fl fs rv ru own db dg place done tv):Fl (iH "place" (.int q) fs) rv ru own db dg q done tv:=by
 refine(?_,?_,?_,?_,?_,?_,?_,?_,λm hm=>?_,by rw[Y6 h.place];exact h.len)
 all_goals rw[qM]
 all_goals first|rw[A6 rfl]|(rw[A4 ()];first|exact h.rows|exact h.rule|exact h.own|exact h.boxes|exact h.place|exact h.done|exact h.given|exact h.there)|(rw[A4 (λe=>by subst e;revert hm;rw[12])];exact h.meth m hm)
def Fl.set_done {k:Nat}(h:Fl fs rv ru own db dg place done tv):Fl (iH "done" (.int ((k:Nat):Int)) fs) rv ru own db dg place k tv:=by
 refine(?_,?_,?_,?_,?_,?_,?_,?_,λm hm=>?_,by rw[Y6 h.done];exact h.len)
 all_goals rw[qM]
 all_goals first|rw[A6 rfl]|(rw[A4 ()];first|exact h.rows|exact h.rule|exact h.own|exact h.boxes|exact h.place|exact h.done|exact h.given|exact h.there)|(rw[A4 (λe=>by subst e;revert hm;rw[12])];exact h.meth m hm)
end
abbrev yU (C:o3)(H:Hp)(m:Mc)(r:Rn):Prop:=
 ∃(dx:o3) (fs:oj (Str×V)) (rv ru tv:V) (gv:oj V),H m.x=u_ (.ins C dx fs)/\Fl fs rv ru m.own m.db m.dg r.p r.n tv/\Is H (.tup (m.rs.map rowD)) rv/\Is H (y9 m.rs) ru/\YF H m.db r.B/\H m.dg=u_ (.lst gv)/\L2.IsL H r.gs gv/\Is H r.th tv
structure Mv (m:Mc)(H H':Hp):Prop where
 kept:∀b o,H b=u_ o->b≠m.x->b≠m.db->b≠m.dg->H' b=u_ o
 tk:Tk H H'
def Mv.refl (m:Mc)(H:Hp):Mv m H H:=[λ_ _ e _ _ _=>e:Tk.refl H]
variable {H H1 H2:Hp}
def Mv.trans {m:Mc}(h:Mv m H H1)(h2:Mv m H1 H2):Mv m H H2:=[λb o e n1 O U=>h2.kept b o (h.kept b o e n1 O U) n1 O U:h.tk.trans h2.tk]
variable {H':Hp}
def Mv.of {m:Mc}(s:ie H H'):Mv m H H':=[λb o e _ _ _=>s b o e:s.tk]
variable {C:o3}
def yU.same {m:Mc}{r:Rn}(h:yU C H m r)(s:ie H H'):yU C H' m r:=
 let⟨dx,fs,rv,ru,tv,gv,e,f,i,j,b,g,gl,t⟩:=h;(dx,fs,rv,ru,tv,gv,s _ _ e,f,i.mono s.tk,j.mono s.tk,b.same s,s _ _ g,gl.mono s.tk,t.mono s.tk)
variable {dx:o3}
def YF.ne {x db:o3}{fs:oj (Str×V)}{B:Str->D}(e:H x=u_ (.ins C dx fs))(h:YF H db B):db≠x:=λz=>by
 erw[h,f,e2,_];rw[z,e,0] at e2
variable {fs':oj (Str×V)}{rv:V}
def yo {m:Mc}{r:Rn}{fs:oj (Str×V)}{ru tv:V}{O:oj V}(e:H m.x=u_ (.ins C dx fs))(f:Fl fs' rv ru m.own m.db m.dg r.p r.n tv)(i:Is H (.tup (m.rs.map rowD)) rv)(j:Is H (y9 m.rs) ru)(b:YF H m.db r.B)(U:H m.dg=u_ (.lst O))(gl:L2.IsL H r.gs O)(t:Is H r.th tv):
  yU C (upd H m.x (.ins C dx fs')) m r/\Mv m H (upd H m.x (.ins C dx fs')):=by
 let tk:Tk H (upd H m.x (.ins C dx fs')):=Tk.updI e;let n1:m.db≠m.x:=YF.ne e b;let n2:m.dg≠m.x:=λz=>by rw[z,e,0] at U
 exact⟨(dx,fs',rv,ru,tv,O,qg,f,i.mono tk,j.mono tk,b.move tk (qk n1),by rwa[qk n2],gl.mono tk,t.mono tk),⟨λc o h a1 _ _=>by rwa[qk a1],tk⟩⟩
abbrev QH:D->Bool
 | .tup (.str w::_)=>decide (w="asks")|_=>Vt
abbrev Th (d:D):Prop:=d= .non\/∃w e,d=-[!w,e]
inductive Out where
 |go (B:Str->D)(p:Int)|stop (e:D)
abbrev Out.B (B:Str->D):Out->Str->D
 | .go B' _=>B'| .stop _=>B
abbrev Out.P (p:Int):Out->Int
 | .go _ p'=>p'| .stop _=>p
abbrev Out.T:Out->D
 | .go _ _=> .non| .stop e=>e
abbrev Xl (B:Str->D)(z:Str)(e:D)(p:Int):Out:=match e with
 | .non=> .stop (flt "kind")|e=>if isT e=v_ then .go (iT B z e) (p+1) else .stop (flt "big")
inductive AcN (C:Addr):Sp
 |mk (m:Mc)(r:Rn)(_:vs= [-m.x])(_:yU C H m r)(_:∀v,Is H r.th v->Q v H)
inductive Aam (C:Addr):Sp
 |mk (m:Mc)(r:Rn)(_:vs= [-m.x])(_:yU C H m r)(_:∀v H',ie H H'->Is H' (¬r.gs) v->Q v H')
inductive SU (C:Addr):Sp
 |mk (m:Mc)(r:Rn)(_:vs= [-m.x])(_:yU C H m r)(_:Th r.th)(_:Q (.bl (QH r.th)) H)
inductive Aaf (C:Addr):Sp
 |mk (m:Mc)(r:Rn)(z:Str)(v:V)(e:D)(_:vs= [-m.x,!z,v])(_:yU C H m r)(_:r.th= .non)(_:z>BX)(_:Is H e v)(_:∀H',Mv m H H'->yU C H' m ((Xl r.B z e r.p).B r.B,(Xl r.B z e r.p).P r.p,r.n,r.gs,(Xl r.B z e r.p).T)->Q .non H')
section
variable {P:o9}{w:og}{K:o0}{mg:Str->om o6}{base:o8}{a:Ad}{g:Ga}
def Ie:#[T,1,a.X1,a.zD,["self"],(AcN a.qm)]:=by
 rw[9,T.iw,kc,O]
 erw[h,m,r,rfl,[dx,fs,rv,ru,tv,U,e,f,ir,iu,ib,hg,gl,it],k];rw[3,%[|#[qp,#[qQ,5,pv 0,rfl]]]]
 exact(0,m.x,_,dx,fs,tv,1,e,T.qt,T.qP,f.there,k _ it)
def Io:#[T,1,a.JN,a.JA,["self"],(Aam a.qm)]:=by
 rw[9,T.iM,Z9]
 erw[h,m,r,rfl,[dx,fs,rv,ru,tv,U,e,f,ir,iu,ib,hg,gl,it],k];rw[3,%[|#[qp,#[qX,Qd,T.QI,vx,#v[#[qQ,5,pv 0,rfl]]]]]]
 exact(0,m.x,_,dx,fs,0,e,T.qt,T.Y0,f.given,m.dg,U,1,.inl [SqL.of hg:λl O=>k _ _ (qf O _) (Is.new gl O)])
def Bz:#[T,1,a.YB,a.YA,["self"],(SU a.qm)]:=by
 rw[9,T.io,JV]
 erw[h,m,[B,p,n,gs,th],rfl,[dx,fs,rv,ru,tv,gv,e,f,ir,iu,ib,hg,gl,it],O,k];simp only at f ib gl it O k;rw[3,%[|#[qp,#[pe_and,#[yQ,KN,#[qQ,5,pv 0,rfl],qY,qx _],#[kK,#[yQ,Qn,#[qL,Jz,#[qQ,5,pv 0,rfl],qj],qh,qx _]]]]]]
 rw[0,m.x,_,dx,fs,tv,1,e,T.qt,T.qP,f.there,1];rcases O with rfl|⟨w1,e1,rfl⟩
 .rw[show tv= .non from it,0]
  exact[0:Qx () k]
 .let U:=it;erw[U,t0,us,rfl,et,iu]
  rw[0,QO (by simp) (0,m.x,_,dx,fs,0,e,T.qt,T.qP,f.there,?_)]
  refine .inr (.inl (XC (i:=0) (d:= !w1) it (Qk (j:=0) rfl) λq hq=>?_));erw[hq,rfl,_]
  rw[1];let ew:decide (V.str w1=V.str ("asks":Str))=decide (w1="asks"):=by
   rw[vc];exact⟨λh=>by injection h,λh=>by rw[h]⟩
  rw[ew];exact k
def Abc:#[T,3,a.xZ,a.xV,["self","box","tree"],(Aaf a.qm)]:=by
 let yM:=#[jF,T];rw[9,T.mz,W6]
 erw[h,m,[B,p,n,gs,th],z,v,d,rfl,[dx,fs,rv,ru,tv,gv,e,f,ir,iu,ib,hg,gl,it],ac,hz,O,k];simp only at f ib gl it ac k;subst ac;rw[3,%[|#[qK,#[qo,Yz,pv 2,qY],%[|#[Qj,#[qE,#v[qh,qh]]]],%[|#[qK,#[Qv,#[Qh,#[qr,yM,#[20],T.lm,qG,#v[pv 2]]]],%[|#[Qj,#[qE,#v[qh,qh]]]],%[#[jj,#[qQ,5,pv 0,rfl],pv 1,pv 2]|#[J7,10,pv 0,qj,Ay]]]]]]]
 let two:(2:Nat)<=sizeLine:=by decide
 let st:∀{H:Hp} (z:Str),↑z<=100->Is H (!z) (!z):=λz hz=>[1:yA ()]
 let fl:∀(z:Str) (H:Hp) (l:o3),↑z<=100->H l=U_->Is (upd H l (-[-"fault",!z])) (flt z) (-l):=λz H l hz U=>Is.new (ds:= [-"fault",!z]) (_,0,st _ (),_,0,st _ hz,1) U
 rw[0,1,0];let aa:↑fs<1000:=by have:=f.len;omega
 by_cases c:d= .non
 .subst c;rw[show v= .non from O,0]
  refine QO () [two:λl U=>?_]
  let s1:ie H (upd H l (-[-"fault",-"kind"])):=qf U _
  rw[0,m.x,_,dx,fs,1,s1 _ _ e,T.qt,T.qP,aa];erw[yo (r:=(B,p,n,gs,flt "kind")) (s1 _ _ e) (f.set_there (u:=-l)) (ir.mono s1.tk) (iu.mono s1.tk) (ib.same s1) (s1 _ _ hg) (gl.mono s1.tk) (fl "kind" H l () U),m1,m2]
  exact k _ ((Mv.of s1).trans m2) m1
 .let hv:v≠ .non:=by
   rintro rfl;cases d with
   |non=>exact c rfl|bl b=>rw[show V.non= .bl b from O,0]|int i=>rw[show V.non= .int i from O,0]|str z=>erw[O,h,_];rw[h,0]|lst=>erw[O,_,_,h,_];rw[h,0]|dct=>erw[O,_,_,h,_];rw[h,0]|tup xs=>erw[O,_,_,h,_];rw[h,0]
  let eo:Xl B z d p=if isT d=v_ then .go (iT B z d) (p+1) else .stop (flt "big"):=by
   cases d with
   |non=>exact A9 rfl c|_=>rfl
  rw[eo] at k;refine Qx (ub hv) ?_
  rw[0,v,d,1,O,λH1 s1=>[0:?_]];cases ht:isT d with
  |false=>
   rw[ht] at k;refine lG [two:λl U=>?_];let s2:ie H (upd H1 l (-[-"fault",-"big"])):=s1.trans (qf U _)
   rw[0,m.x,_,dx,fs,1,s2 _ _ e,T.qt,T.qP,aa];erw[yo (r:=(B,p,n,gs,flt "big")) (s2 _ _ e) (f.set_there (u:=-l)) (ir.mono s2.tk) (iu.mono s2.tk) (ib.same s2) (s2 _ _ hg) (gl.mono s2.tk) (fl "big" H1 l () U),m1,m2]
   exact k _ ((Mv.of s2).trans m2) m1
  |true=>
   rw[ht] at k;refine iX ?_;let ae:=O.mono s1.tk;erw[(ib.same s1).put hz ae,kvs,ad,af,t2];let n1:m.db≠m.x:=YF.ne e ib;let n3:m.dg≠m.db:=λz=>by
    erw[ib,ff,e2,_];rw[z,e2,0] at hg
   let e1:=s1 _ _ e;let e3:(upd H1 m.db (.dK kvs)) m.x=u_ (.ins a.qm dx fs):=by rwa[qk n1.symm]
   rw[0,0,m.x,_,dx,fs,0,e1,T.qt,T.Qz,f.boxes,0,m.db,0,ad]
   rw[0,m.x,_,dx,fs,0,e3,T.qt,T.Qo,f.place,p,(1),1,1,dx,fs,e3,aa];obtain⟨m1,m2⟩:=yo (r:=(iT B z d,p+1,n,gs,.non)) e3 (f.set_place (q:=p+1)) ((ir.mono s1.tk).mono t2) ((iu.mono s1.tk).mono t2) af (by rw[qk n3];exact s1 _ _ hg) ((gl.mono s1.tk).mono t2) it
   exact k _ ((Mv.of s1).trans (Mv.trans ⟨λb o h _ a2 _=>by rwa[qk a2],t2⟩ m2)) m1
abbrev MKR:oj Str:= ["text","self","copy","row","put","join","first","rest","size","cut","glue"]
abbrev Ap (ps:oj Pt):Int:=match ps.getLast? with
 |some (.n i)=>i|_=>0
abbrev lE (own:Str)(r:Rw)(B:Str->D)(p:Int):Out:=
 if r.1>MKR then Xl B (b0 r.2) (made r.1 B own r.2) p else if r.1>ASK then .stop (nV r.1 (B (b1 r.2))) else if r.1="say" then .stop (-[-"said",B (b0 r.2)]) else
 if r.1="fault" then .stop (flt "told") else if Sd r.1 B r.2=v_ then .go B (Ap r.2) else .go B (p+1)
def AdW:∀x>FRM,x.1>MKR->x.2.head? =u_ .box:=by rw[12]
def WP:∀x>FRM,x.1>ASK->x.1∉MKR/\x.1>Aep/\x.2= [.box,.box]:=by rw[12]
def BM:∀x>FRM,x.1="say"->x.2= [.box]:=by rw[12]
def Lp:∀x>FRM,x.1>MKR\/(x.1∉MKR/\x.1>Aep/\(x.1>ASK\/x.1∉ASK/\(x.1="say"\/x.1="fault"\/x.1≠"say"/\x.1≠"fault"/\x.1>JMP))):=by rw[12]
def AbJ:∀x>FRM,x.1>JMP->x.2.getLast? =u_ .line:=by rw[12]
variable {r:Rw}
def Afr {m:Nat}(h:jH n m r)(U:r.1>MKR):∃z ps,r.2= .s z::ps/\z>BX:=by
 erw[h,ks,hk,O];have:=AdW _ hk U
 match ks,O,this with
 | .box::ks,O,_=>
  match h2:r.2,O with
  | .s z::ps,O=>exact(z,ps,1,O.1)| .n _::_,O=>exact O.1.elim
def Ky {n m:Nat}:∀{ks:oj Kd}{ps:oj Pt},Xv n m ks ps->ks.getLast? =u_ .line->∃qs i,ps=qs++ [.n i]/\1<=i/\i<=(n:Int)
 | [k],[p],h,e=>by
  rw[e,0];cases p with
  |n i=>exact([],i,1,h.1)|s z=>exact h.1.elim
 |k::k2::ks,p::p2::ps,h,e=>by
  rw[Vj] at e;erw[Ky (ks:=k2::ks) (ps:=p2::ps) h.2 e,qs,i,e2,hi,<-(p::qs,i,by rw[e2];rfl,hi)]
 | [k],p::_::_,h,_=>h.2.elim|k::_::_,[p],h,_=>h.2.elim| [],[],_,e=>by rw[e,0]| [],_::_,h,_=>h.elim|_::_,[],h,_=>h.elim
def CN {m:Nat}(h:jH n m r)(O:r.1>JMP):∃qs i,r.2=qs++ [.n i]/\1<=i/\i<=(n:Int)/\Ap r.2=i:=by
 erw[h,ks,U,hp];erw[Ky hp (AbJ _ U O),qs,i,e,h1,h2];rw[_,qs,i,e,h1,h2];unfold Ap;rw[e,List.getLast?_concat]
inductive MF (C:Addr):Sp
 |mk (m:Mc)(r:Rn)(rw:Rw)(v:V)(k:Nat)(_:vs= [-m.x,v])(_:yU C H m r)(_:r.th= .non)(_:Tr r.B)(_:↑m.own<=100)(_:jH k 300 rw)(_:Is H (rowD rw) v)(_:∀H',Mv m H H'->yU C H' m ((lE m.own rw r.B r.p).B r.B,(lE m.own rw r.B r.p).P r.p,r.n,r.gs,(lE m.own rw r.B r.p).T)->Q .non H')
variable {x:Str}
def Afq (T:Tx K mg a)(C:Fx K w mg g a)(h:x>MKR):∃f fd,PySem.W.nsIn K g.makers x=u_ (u_ (-f))/\FnOk P w K mg base CX0 1 f fd #[11] (X0 x)/\Xh K fd #[11] []/\PySem.W.keepIn K (-f)=true:=by
 simp![MKR,uH,uI,uU] at h;rcases h with rfl|rfl|rfl|rfl|rfl|rfl|rfl|rfl|rfl|rfl|rfl
 .exact(_,_,C.k_text,AaT T,T.lH.b,T.lH.F.kp)
 .exact(_,_,C.k_self,AaW T,T.lJ.b,T.lJ.F.kp)
 .exact(_,_,C.k_copy,Abf T,T.lR.b,T.lR.F.kp)
 .exact(_,_,C.k_row,Ads T,T.l8.b,T.l8.F.kp)
 .exact(_,_,C.k_put,Adt T,T.me.b,T.me.F.kp)
 .exact(_,_,C.k_join,Abb T,T.lO.b,T.lO.F.kp)
 .exact(_,_,C.k_first,Nm T,T.li.b,T.li.F.kp)
 .exact(_,_,C.k_rest,AaZ T,T.lK.b,T.lK.F.kp)
 .exact(_,_,C.k_size,AaV T,T.lI.b,T.lI.F.kp)
 .exact(_,_,C.k_cut,Adw T,T.mh.b,T.mh.F.kp)
 .exact(_,_,C.k_glue,Abd T,T.lQ.b,T.lQ.F.kp)
def Nq:#[C,4,a.Je,a.Jk,["self","row"],(MF a.qm)]:=by
 let W5:=#[Aba,T];let wm:=#[Nr,T];let W9:=#[Abc,T];rw[9,T.lZ,Yb]
 erw[h,m,[B,p,n,gs,th],r,v,nn,rfl,M,ag,hT,ho,ae,iv,k];simp only at ag hT k;subst ag;rw[3,%[#[qy,(2),Yb.nd,#[qL,qJ,pv 1,qj]],#[qy,(3),Yb.nd,#[qL,qJ,pv 1,qj]]|#[qK,#[qo,8,Adp,pv 2,#[WV,C.m_MAKERS],#[w]],%[|#[Qe,#[Qw,pv 0,T.qt,T.mz,W9,#v[#[qL,qJ,pv 3,qj],#[MY,9,(1),5,(1,1,1,1,1),#[qL,Age,#[WV,C.m_MAKERS],pv 2],#[20],#v[#[qQ,5,pv 0,rfl],#[qQ,5,pv 0,rfl],pv 3],_,_]]]]],%[|#[qK,#[qo,8,ya,pv 2,#[WV,C.m_ASKING],#[w]],%[|#[Qj,#[qr,wm,#[20],T.lX,qG,#v[pv 2,#[Qq,#[qQ,5,pv 0,rfl],#[qL,qJ,pv 3,qj]]]]]],%[|#[qK,#[qo,Qn,pv 2,qh],%[|#[Qj,#[qE,#v[qh,#[Qq,#[qQ,5,pv 0,rfl],#[qL,qJ,pv 3,qj]]]]]],%[|#[qK,#[qo,Qn,pv 2,qh],%[|#[Qj,#[qE,#v[qh,qh]]]],%[|#[qK,#[Qh,#[qr,W5,#[20],T.mn,qG,#v[#[qQ,5,pv 0,rfl],pv 2,pv 3]]],%[|#[Qj,#[qL,qJ,pv 3,#[Adi,6,Os,qj]]]],%[|#[J7,10,pv 0,qj,Ay]]]]]]]]]]]]]
 let two:(2:Nat)<=sizeLine:=by decide
 erw[r,U,ps];erw[iv,t0,us,rfl,et,iu];erw[iu,v1,u1,rfl,[rfl,au],v2,u2,rfl,i2,e2];rw[show u2= [] from e2,0]
 rw[0,t0,_,(0),0,1,SqT.of et,1]
 rw[0,t0,_,(1),0,1,SqT.of et,1];erw[id i2,t1,aw,rfl,ax,ay];let ad:Mb H t1 ps:=i2;let am:=ae;erw[am,ks,hk,hp];let hM:=M;erw[hM,dx,fs,rv,ru,tv,gv,e,f,ir,ij,ib,hg,gl,it];simp only at f ib gl it;let af:↑fs<1000:=by have:=f.len;omega
 rcases Lp _ hk with aa|⟨aa,ao,ac⟩
 .erw[Afq (P:=P) (base:=base) T C aa,fa,fd,hn,hF,hb,ap];erw[Afr ae aa,z,qs,rfl,aq];let eo:lE m.own (U,.s z::qs) B p=Xl B z (made U B m.own (.s z::qs)) p:=by unfold lE;rw[A6 aa];rfl
  rw[eo] at k
  rw[0,U,g.makers,0,1,C.km,hn,0];refine lG ?_
  rw[0,m.x,dx,fs,1,e,f.meth _ (),0]
  try dsimp![tC]
  refine L4 (i:=0) ad rfl ?_
  rw[0,U,g.makers,_,-fa,1,1,C.km,hn,1,fa,fd,_,X0 U,1,hF,hb,ap]
  rw[0,m.x,_,dx,fs,0,e,T.qt,T.Qz,f.boxes,0,m.x,_,dx,fs,0,e,T.qt,T.zL,f.own,0]
  rw[_,m.db,t1,m.own,B,.s z::qs,nn,1,ib,hT,ho,ae,ad,λv H1 s1 hv=>?_];exact(m,(B,p,n,gs,.non),z,v,0,M.same s1,1,aq,hv,λH2 m2 M2=>k H2 ((Mv.of s1).trans m2) M2)
 .rw[0,U,g.makers,0,1,C.km,C.k_no _ ao,0];refine iX ?_
  rw[0,g.asking,0,.inr (C.asking _),1,1,0];let ei:inV (!U) [-"ask",-"has",-"names"]=decide (U>ASK):=wB (z:=U) (l:=ASK);rw[A4 uh,ei];rcases ac with O|⟨O,ac⟩
  .refine QO (ua O) ?_;erw[WP _ hk O,_,_,ek];simp only at ek;subst ek;erw[wY hp,z0,z1,rfl,h0,h1];let eo:lE m.own (U,[.s z0,.s z1]) B p= .stop (nV U (B z1)):=by unfold lE;rw[A4 aa,A6 O];rfl
   rw[eo] at k
   rw[0,0,m.x,_,dx,fs,0,e,T.qt,T.Qz,f.boxes,0]
   try dsimp![tC]
   refine si (i:=1) ib ad rfl h1 λv hv=>?_
   rw[_,U,v,B z1,1,O,hv,λu H1 s1 hu=>?_]
   rw[0,m.x,_,dx,fs,1,s1 _ _ e,T.qt,T.qP,af];erw[yo (r:=(B,p,n,gs,nV U (B z1))) (s1 _ _ e) (f.set_there (u:=u)) (ir.mono s1.tk) (ij.mono s1.tk) (ib.same s1) (s1 _ _ hg) (gl.mono s1.tk) hu,m1,m2,<-k _ ((Mv.of s1).trans m2) m1]
  .refine Qx (ub O) ?_
   rw[0,1,0];let es:∀y:Str,decide (V.str U=V.str y)=decide (U=y):=λy=>by
    rw[vc];exact⟨λh=>by injection h,λh=>by rw[h]⟩
   rcases ac with rfl|rfl|⟨hs,hf,hj⟩
   .refine QO (ua rfl) ?_;let ek:=BM _ hk rfl;simp only at ek;subst ek;erw[Ae6 hp,z0,rfl,h0];let eo:lE m.own ("say",[.s z0]) B p= .stop (-[-"said",B z0]):=by unfold lE;rw[A4 aa,A4 O,A6 rfl];rfl
    rw[eo] at k
    rw[0,m.x,_,dx,fs,0,e,T.qt,T.Qz,f.boxes,0]
    try dsimp![tC]
    refine si (i:=0) ib ad rfl h0 λv hv=>?_
    rw[_,two,λl hl=>?_];let s1:ie H (upd H l (-[-"said",v])):=qf hl _
    rw[0,m.x,_,dx,fs,1,s1 _ _ e,T.qt,T.qP,af];erw[yo (r:=(B,p,n,gs,-[-"said",B z0])) (s1 _ _ e) (f.set_there (u:=-l)) (ir.mono s1.tk) (ij.mono s1.tk) (ib.same s1) (s1 _ _ hg) (gl.mono s1.tk) (Is.new (ds:= [-"said",B z0]) (_,0,[1:yA ()],_,0,hv,1) hl),m1,m2]
    exact k _ ((Mv.of s1).trans m2) m1
   .let ah:¬(("fault":Str)="say"):=by rw[12]
    refine Qx (ub λh=>ah (by injection h)) ?_
    rw[0,1,0,QO (ua rfl) ?_];let eo:lE m.own ("fault",ps) B p= .stop (flt "told"):=by unfold lE;rw[A4 aa,A4 O,A4 ah,A6 rfl]
    rw[eo] at k
    rw[_,two,λl hl=>?_];let s1:ie H (upd H l (-[-"fault",-"told"])):=qf hl _
    rw[0,m.x,_,dx,fs,1,s1 _ _ e,T.qt,T.qP,af];erw[yo (r:=(B,p,n,gs,flt "told")) (s1 _ _ e) (f.set_there (u:=-l)) (ir.mono s1.tk) (ij.mono s1.tk) (ib.same s1) (s1 _ _ hg) (gl.mono s1.tk) (Is.new (ds:= [-"fault",-"told"]) (_,0,[1:yA ()],_,0,[1:yA ()],1) hl),m1,m2]
    exact k _ ((Mv.of s1).trans m2) m1
   .refine Qx (by rw[es];exact ub hs) ?_
    rw[0,1,0,Qx (by rw[es];exact ub hf) ?_]
    let eo:lE m.own (U,ps) B p=if Sd U B ps=v_ then .go B (Ap ps) else .go B (p+1):=by unfold lE;rw[A4 aa,A4 O,A4 hs,A4 hf]
    rw[eo] at k;erw[CN ae hj,qs,i,ak,h1,h2,hl];simp only at ak hl
    rw[0,m.x,_,dx,fs,0,e,T.qt,T.Qz,f.boxes,0,0,m.db,t1,U,B,ps,nn,1,ib,hT,hj,ae,ad,0];cases al:Sd U B ps with
    |true=>
     rw[al] at k;refine lG (0,(1),1,?_);refine XC (i:= -1) (d:= .int i) ad (by rw[ak,uA];exact K0 _ _) λq hq=>?_
     rw[show q= .int i from hq,0]
     rw[0,m.x,_,dx,fs,1,e,T.qt,T.Qo,af];erw[yo (r:=(B,i,n,gs,.non)) e (f.set_place (q:=i)) ir ij ib hg gl it,m1,m2];refine k _ m2 ?_;show yU _ _ _ (B,Ap ps,n,gs,.non);rwa[hl]
    |false=>
     rw[al] at k;refine iX (0,m.x,_,dx,fs,0,e,T.qt,T.Qo,f.place,p,(1),1,1,dx,fs,e,af,?_);erw[yo (r:=(B,p+1,n,gs,.non)) e (f.set_place (q:=p+1)) ir ij ib hg gl it,m1,m2,<-k _ m2 m1]
abbrev Q0 (rs:oj Rw)(p:Int):Rw:=rs.getD (p.toNat-1) ("fault",[])
abbrev lC (rs:oj Rw)(own:Str)(gs:oj D):Nat->(Str->D)->Int->Nat->Rn
 |0,B,p,n=>(B,p,n,gs,if GT.gt p (↑rs) then flt "silent" else flt "long")|f+1,B,p,n=>if GT.gt p (↑rs) then(B,p,n,gs,flt "silent") else match lE own (Q0 rs p) B p with
  | .go B' p'=>lC rs own gs f B' p' (n+1)| .stop e=>(B,p,if QH e=v_ then n else n+1,gs,e)
variable {rs:oj Rw}
def EA {p:Int}(h1:1<=p)(h2:p<=↑rs):rs[p.toNat-1]? =u_ (Q0 rs p):=by
 unfold Q0;let h:p.toNat-1<↑rs:=by omega
 simp[Hw,h]
def qan {p:Int}(h1:1<=p)(h2:p<=↑rs):Q0 rs p>rs:=uL (EA h1 h2)
variable {e:D}
def qaC {B:Str->D}(h:Tr B)(O:isT e=v_):Tr (iT B z e):=λy U=>by
 unfold iT;by_cases c:y=z
 .rwa[A6 c]
 .rw[A4 c];exact h y U
abbrev Ab8 (n:Int):Out->Prop
 | .go B p=>Tr B/\1<=p/\p<=n+1| .stop e=>∃w d,e=-[!w,d]
def NO {B:Str->D}{p n:Int}(h:Tr B)(h1:1<=p)(h2:p<=n):Ab8 n (Xl B z e p):=by
 let O:Ab8 n (if isT e=v_ then .go (iT B z e) (p+1) else .stop (flt "big")):=by
  by_cases c:isT e=v_
  .rw[A6 c];exact[qaC h c:():()]
  .rw[A4 c];exact[_:0]
 cases e with
 |non=>exact[_:0]|_=>exact O
def AbZ (w:Str)(d:D):∃u e,nV w d=-[!u,e]:=by
 unfold nV;split
 .split
  .exact[_:0]
  .exact[_:0]
 .split
  .exact[_:0]
  .exact[_:0]
variable {own:Str}
def Bp {B:Str->D}{p:Int}(hr:jH n 300 r)(h:Tr B)(h1:1<=p)(h2:p<=n):Ab8 n (lE own r B p):=by
 unfold lE;by_cases O:r.1>MKR
 .rw[A6 O];exact NO h h1 h2
 rw[A4 O];by_cases U:r.1>ASK
 .rw[A6 U];exact AbZ _ _
 rw[A4 U];by_cases c3:r.1="say"
 .rw[A6 c3];exact[_:0]
 rw[A4 c3];by_cases c4:r.1="fault"
 .rw[A6 c4];exact[_:0]
 rw[A4 c4];by_cases c5:Sd r.1 B r.2=v_
 .rw[A6 c5];erw[id hr,ks,hk,hp];let hj:r.1>JMP:=by
   rcases Lp _ hk with q|⟨_,_,q|⟨_,q|q|q⟩⟩
   .exact A9 q O
   .exact A9 q U
   .exact A9 q c3
   .exact A9 q c4
   .exact q.2.2
  erw[CN hr hj,qs,i,_,a1,a2,a3,<-⟨h,by rwa[a3],by rw[a3];omega⟩]
 .rw[A4 c5];exact[h:():()]
inductive Aag (C:Addr):Sp
 |mk (m:Mc)(r:Rn)(_:vs= [-m.x])(_:yU C H m r)(_:r.th= .non)(_:Tr r.B)(_:↑m.own<=100)(_:yg m.rs)(_:1<=r.p)(_:r.p<=↑m.rs+1)(_:r.n<=300)(_:∀(H':Hp),Mv m H H'->yU C H' m (lC m.rs m.own r.gs (300-r.n) r.B r.p r.n)->Q .non H')
def Ik:#[C,5,a.JI,a.JX,["self"],(Aag a.qm)]:=by
 let wj:=#[Nq,T,C];let Qu:=#[Bz,T];rw[9,T.iZ,wn]
 erw[h,[x,db,dg,rs,own],[B0,p0,n0,gs,th],rfl,M0,ax,ay,ho,hR,aF,aA,aG,k];simp only at ax ay ho hR aF aA aG k;subst ax;rw[3,%[|#[xg,#[qo,Yz,#[qQ,5,pv 0,rfl],qY],%[|#[qK,#[qo,qax,#[qQ,5,pv 0,rfl],#[qw,qN,T.yt,uK,#v[#[qQ,5,pv 0,rfl]]]],%[|#[Qj,#[qE,#v[qh,qh]]]],%[|#[qK,#[qo,Qn,#[qQ,5,pv 0,rfl],#[qaa,T.m_MOST_DONE]],%[|#[Qj,#[qE,#v[qh,qh]]]],%[#[Qe,#[Qw,pv 0,T.qt,T.lZ,wj,#v[#[qL,qJ,#[qQ,5,pv 0,rfl],#[qV,OQ,#[qQ,5,pv 0,rfl],qj]]]]]|#[qK,#[Qv,#[Qh,#[QC,pv 0,T.qt,T.io,Qu]]],%[|#[J7,10,pv 0,qj,Ay]],qu]]]]]]]]]
 let two:(2:Nat)<=sizeLine:=by decide
 let n1:=hR.n1;generalize aB:lC rs own gs (300-n0) B0 p0 n0=res at k
 refine_lift let J1_:Nat->L2.St->Hp->Prop:=λm σ H'=>∃(B:Str->D) (p:Int) (n:Nat) (th:D),σ= [u_ (-x)]/\yU a.qm H' (x,db,dg,rs,own) (B,p,n,gs,th)/\Mv (x,db,dg,rs,own) H H'/\Tr B/\1<=p/\p<=↑rs+1/\n<=300/\((th= .non/\lC rs own gs (300-n) B p n=res/\m=301-n)\/((∃u e,th=-[!u,e])/\(B,p,n,gs,th)=res/\m=0));?_
 rw[_,J1_,(_,B0,p0,n0,.non,1,M0,Mv.refl _ _,ay,(),(),(),.inl [1:aB:1])]
 rintro m σ H' ⟨B,p,n,th,rfl,M,mv,hT,ae,am,hn,hc⟩;let hM:=M;erw[hM,dx,fs,rv,ru,tv,gv,e,f,ir,ij,ib,hg,gl,it];simp only at e f ir ij ib hg gl it;let aC:↑fs<1000:=by have:=f.len;omega
 rw[0,x,_,dx,fs,tv,1,e,T.qt,T.qP,f.there,1,0];rcases hc with⟨rfl,aa,rfl⟩|⟨⟨u,d,rfl⟩,aa,rfl⟩
 .rw[show tv= .non from it,0]
  let ah:∀{H:Hp},Is H .non .non:=rfl;refine QO () ?_
  rw[_,λσ' H2=>∃(B:Str->D) (p:Int) (n2:Nat) (th:D),σ'= [u_ (-x)]/\yU a.qm H2 (x,db,dg,rs,own) (B,p,n2,gs,th)/\Mv (x,db,dg,rs,own) H H2/\Tr B/\1<=p/\p<=↑rs+1/\n2<=300/\((th= .non/\lC rs own gs (300-n2) B p n2=res/\n<n2)\/((∃u e,th=-[!u,e])/\(B,p,n2,gs,th)=res)),?_,?_]
  .rintro σ' H2 ⟨B2,p2,n2,aN,rfl,M2,af,aD,a1,a2,a3,aH⟩;rcases aH with⟨rfl,q1,q2⟩|⟨q0,q1⟩
   .exact(301-n2,(),B2,p2,n2,0,M2,af,aD,a1,a2,a3,.inl [1:q1:1])
   .exact((0),(),B2,p2,n2,0,M2,af,aD,a1,a2,a3,.inr [q0:q1:1])
  .let aI:=ir;erw[aI,ta,us,rfl,aJ,iu];let aO:↑us=↑rs:=by rw[↑iu,uc]
   let fl:∀(z:Str) (H:Hp) (l:o3),↑z<=100->H l=U_->Is (upd H l (-[-"fault",!z])) (flt z) (-l):=λz H l hz hl=>Is.new (ds:= [-"fault",!z]) (_,0,[1:yA ()],_,0,[1:yA ()],1) hl
   let ac:∀(z:Str),↑z<=100->(B,p,n,gs,flt z)=res->∀l,H' l=U_->(λH2=>∃(B:Str->D) (p:Int) (n2:Nat) (th:D),[u_ (V.ref x)]= [u_ (V.ref x)]/\yU a.qm H2 (x,db,dg,rs,own) (B,p,n2,gs,th)/\Mv (x,db,dg,rs,own) H H2/\Tr B/\1<=p/\p<=↑rs+1/\n2<=300/\((th= .non/\lC rs own gs (300-n2) B p n2=res/\n<n2)\/((∃u e,th=-[!u,e])/\(B,p,n2,gs,th)=res))) (upd (upd H' l (-[-"fault",!z])) x (.ins a.qm dx (iH "there" (-l) fs))):=by
    intro z hz aK l hl;let s1:ie H' (upd H' l (-[-"fault",!z])):=qf hl _;erw[yo (m:=(x,db,dg,rs,own)) (r:=(B,p,n,gs,flt z)) (s1 _ _ e) (f.set_there (u:=-l)) (ir.mono s1.tk) (ij.mono s1.tk) (ib.same s1) (s1 _ _ hg) (gl.mono s1.tk) (fl z H' l hz hl),m1,m2,<-(B,p,n,flt z,1,m1,mv.trans ((Mv.of s1).trans m2),hT,ae,am,hn,.inr [[_:0]:aK])]
   rw[0,x,_,dx,fs,0,e,T.qt,T.Qo,f.place,0,x,_,dx,fs,0,e,T.qt,T.Yj,f.rows,ta,us,1,.inr (SqT.of aJ),_,0,1,0];refine lz (λc=>?_) (λc=>?_)
   .let c':GT.gt p (↑rs):=by have:=uq c;omega
    let er:(B,p,n,gs,flt "silent")=res:=by
     rw[<-aa];cases h3:300-n with
     |zero=>unfold lC;rw[A6 c']|succ q=>unfold lC;rw[A6 c']
    rw[_,two,λl hl=>?_];let s1:ie H' (upd H' l (-[-"fault",-"silent"])):=qf hl _;exact(0,x,_,dx,fs,1,s1 _ _ e,T.qt,T.qP,aC,ac "silent" () er l hl)
   .let c':¬GT.gt p (↑rs):=λh=>c (ua ())
    rw[0,x,_,dx,fs,0,e,T.qt,T.yi,f.done,1,0];refine lz (λc2=>?_) (λc2=>?_)
    .let e3:n=300:=by have:=uq c2;injection this with h;omega
     let er:(B,p,n,gs,flt "long")=res:=by
      rw[<-aa,e3];show _=lC rs own gs 0 B p 300;unfold lC;rw[A4 c']
     rw[_,two,λl hl=>?_];let s1:ie H' (upd H' l (-[-"fault",-"long"])):=qf hl _;exact(0,x,_,dx,fs,1,s1 _ _ e,T.qt,T.qP,aC,ac "long" () er l hl)
    .let e3:n<300:=by
      rcases Ua n 300 with h|h
      .exact h
      .exact A9 (ua (by rw[show n=300 by omega];rfl)) c2
     let ao:p<=↑rs:=by omega
     let aE:=hR.ok _ (qan ae ao);let hok:=Bp (own:=own) aE hT ae ao;let U:res=match lE own (Q0 rs p) B p with
       | .go B' p'=>lC rs own gs (300-(n+1)) B' p' (n+1)| .stop e=>(B,p,if QH e=v_ then n else n+1,gs,e):=by
      rw[<-aa,show 300-n=(300-(n+1))+1 by omega,lC,A4 c']
     rw[0,x,dx,fs,1,e,f.meth _ ()]
     rw[0,x,_,dx,fs,0,e,T.qt,T.Yj,f.rows,0,x,_,dx,fs,0,e,T.qt,T.Qo,f.place,_,0,1];let aL:atI (rs.map rowD) (p-1)=u_ (rowD (Q0 rs p)):=by
      rw[show p-1=((p.toNat-1:Nat):Int) by omega]
      exact Qk (by rw[uG,EA ae ao];rfl)
     refine XC (d:=rowD (Q0 rs p)) ir aL λq hq=>?_
     rw[_,(x,db,dg,rs,own),(B,p,n,gs,.non),Q0 rs p,q,↑rs,1,M,1,hT,ho,aE,hq,λH2 m2 M2=>?_];let aM:=M2;erw[aM,ag,ad,aP,aQ,aR,aS,e2,f2,ap,aq,ak,au,aw,ah];simp only at e2 f2 ap aq ak au aw ah;let al:↑ad<1000:=by have:=f2.len;omega
     let af:=mv.trans m2;generalize hO:lE own (Q0 rs p) B p=O at hok U M2 ah ak f2;cases O with
     |go B' p'=>
      erw[hok,q1,q2,q3]
      rw[0,x,ag,ad,1,e2,f2.meth _ (),_,0,M2,.inl rfl,0]
      refine QO rfl ?_
      rw[0,x,_,ag,ad,0,e2,T.qt,T.yi,f2.done,(n:Int),(1),1,1,ag,ad,e2,al];erw[yo (m:=(x,db,dg,rs,own)) (r:=(B',p',n+1,gs,.non)) e2 (f2.set_done (k:=n+1)) ap aq ak au aw ah,m3,m4,<-(B',p',n+1,.non,1,m3,af.trans m4,q1,q2,q3,(),.inl [1:U.symm:()])]
     |stop d=>
      erw[hok,u,d2,rfl]
      rw[0,x,ag,ad,1,e2,f2.meth _ (),_,0,M2,.inr [_:0],0]
      cases hw:QH (-[!u,d2]) with
      |true=>
       simp![hw] at U;refine Qx (by show(!(QH) (-[!u,d2]))=Vt;rw[hw];rfl) ?_
       exact(B,p,n,0,M2,af,hT,ae,am,hn,.inr [[_:0]:U.symm])
      |false=>
       simp![hw] at U;refine QO (by show(!(QH) (-[!u,d2]))=v_;rw[hw];rfl) ?_
       rw[0,x,_,ag,ad,0,e2,T.qt,T.yi,f2.done,(n:Int),(1),1,1,ag,ad,e2,al];erw[yo (m:=(x,db,dg,rs,own)) (r:=(B,p,n+1,gs,-[!u,d2])) e2 (f2.set_done (k:=n+1)) ap aq ak au aw ah,m3,m4,<-(B,p,n+1,0,m3,af.trans m4,hT,ae,am,(),.inr [[_:0]:U.symm])]
 .have:tv≠ .non:=by erw[it,_,_,h,_];rw[h];exact λz=>by rw[z,0]
  refine Qx (ub this) ?_;refine k H' mv ?_;rw[<-aa];exact M
abbrev emp (z:Str):D:=-[!z,-""]
def OL {H:Hp}:∀{zs:oj Str}{ys:oj V},L2.IsL H (zs.map emp) ys->∃ts:oj o3,ys=ts.map V.ref/\↑ts=↑zs/\∀(i:Nat) (t:o3) (z:Str),ts[i]? =u_ t->zs[i]? =u_ z->H t=u_ (-[!z,-""])
 | [],_,h=>by
  rw[show _= [] from h,0]
  exact([],1,1,λi t z h=>by simp at h)
 |y::zs,_,h=>by
  erw[h,v,r,rfl,[t,us,rfl,O,v1,u1,rfl,[rfl,_],v2,U,rfl,[rfl,_],e2],h2];rw[show U= [] from e2,0]
  erw[OL h2,ts,rfl,hl,hi];refine(t::ts,1,by rw[uw,hl];rfl,λi q z h1 h3=>?_)
  cases i with
  |zero=>
   rw[h1,0];rw[h3,0];exact O
  |succ j=>exact hi j q z (by simpa using h1) (by simpa using h3)
variable {ys:oj V}
def AaF {A:o3}(e:H A=u_ (.lst ys))(h:L2.IsL H (BX.map emp) ys):De H A (BX.map λz=>(z,V.str "")):=by
 erw[OL h,ts,rfl,O,hi];rw[_,ts,e,by rw[O,uc],λi t p h1 h2=>?_]
 rw[uG] at h2;cases hz:BX[i]? with
 |none=>rw[hz,0] at h2|some z=>
  rw[hz,0] at h2;exact hi i t z h1 hz
abbrev B0:Str->D:=λ_=>-""
variable {q:o3}
def AbW (O:H q=U_):YF (upd H q (.dK (iy (BX.map λz=>(z,V.str ""))))) q B0:=by
 rw[_,λ_=>-"",?_,λz _=>[1:yA ()]]
 rw[qg];unfold iy kvB;rw[uR]
 rfl
def Acj:Tr B0:=λ_ _=>(by rw[12]:isT (-"")=v_)
def Og:((BX.map λz=>(z,V.str "")).map (·.1)).Nodup:=by
 rw[uR];show(BX.map id).Nodup;rw[tQ]
 rw[12]
def EI (f:Str)(v:V):∀fs:oj (Str×V),↑(iH f v fs)<=↑fs+1
 | []=>Vv _|(g,x)::r=>by
  unfold iH;by_cases c:g=f
  .rw[A6 c];simp
  .rw[A4 c];have:=EI f v r;simp![uw];omega
abbrev FLD:oj Str:= ["rows","rule","own","boxes","place","done","given","there"]
def Abt:∀m>MTH,m∉FLD:=by rw[12]
variable {v:V}
def Sk {db dg:o3}(O:(iH "there" .non (iH "given" (-dg) (iH "done" (.int 0) (iH "place" (.int 1) (iH "boxes" (-db) (iH "own" (!own) (iH "rule" v (iH "rows" rv [])))))))).length<=20):
  Fl (iH "there" .non (iH "given" (-dg) (iH "done" (.int 0) (iH "place" (.int 1) (iH "boxes" (-db) (iH "own" (!own) (iH "rule" v (iH "rows" rv [])))))))) rv v own db dg 1 0 .non:=by
 rw[_,?_,?_,?_,?_,?_,?_,?_,?_,λm hm=>?_,O]
 .iterate 7 rw[qM,A4 ()]
  rw[qM,A6 rfl]
 .iterate 6 rw[qM,A4 ()]
  rw[qM,A6 rfl]
 .iterate 5 rw[qM,A4 ()]
  rw[qM,A6 rfl]
 .iterate 4 rw[qM,A4 ()]
  rw[qM,A6 rfl]
 .iterate 3 rw[qM,A4 ()]
  rw[qM,A6 rfl]
 .iterate 2 rw[qM,A4 ()]
  rw[qM,A6 rfl]
  rfl
 .rw[qM,A4 (),qM,A6 rfl]
 .rw[qM,A6 rfl]
 .let h:=Abt m hm
  iterate 8 rw[qM,A4 (λe=>h (by rw[e];rw[12]))]
  rfl
structure Ini (n:Nat)(H:Hp)(C x dx:o3)(fs:oj (Str×V))(H':Hp):Prop where
 len:↑fs<=n
 at':H' x=u_ (.ins C dx fs)
 kept:∀b o,H b=u_ o->b≠x->H' b=u_ o
def Ini.put {x:o3}{fs:oj (Str×V)}(I:Ini n H C x dx fs H')(f:Str)(v:V):Ini (n+1) H C x dx (iH f v fs) (upd H' x (.ins C dx (iH f v fs)))/\Tk H' (upd H' x (.ins C dx (iH f v fs))):=
 ⟨⟨uP (EI f v fs) (RP I.len),qg,λb o h n=>by rw[qk n];exact I.kept b o h n⟩,Tk.updI I.at'⟩
def Ini.same {x:o3}{fs:oj (Str×V)}(I:Ini n H C x dx fs H')(s:ie H' H2):Ini n H C x dx fs H2:=[I.len:s _ _ I.at':λb o h n=>s _ _ (I.kept b o h n)]
def AdK {K:o0}{b A:o3}{H1:Hp}{te:TE}{tl:L2.St}{Q:VK}(O:∀H,SqT K H b (BX.map V.str))(hA:H1 A=U_)
  (U:∀(z:Str) H (R:VK),↑z<=Vw->ie H1 H->(∀y H',ie H H'->Is H' (emp z) y->R y H')->te (u_ (!z)::tl) H R)
  (hQ:∀H' ys,ie H1 H'->H' A=u_ (.lst ys)->L2.IsL H' (BX.map emp) ys->Q (-A) H'):Mg A (Itt K b) (jG 0) Di te (U_::tl) H1 Q:=by
 let hl:∀H,L2.IsL H (BX.map D.str) (BX.map V.str):=λH=>IsL.ofStrs λz hz=>yA (by rw[(Sq hz).1];decide)
 refine IO (ds:=BX.map D.str) (λd=>match d with| .str z=>emp z|d=>d) (yA ()) hA (λi H sm hi=>(BX.map V.str,(BX.map V.str)[i]'(by simpa using hi),O H,um _)) (λi H x H' d sm hd y=>?_) (λH sm=>⟨BX.map V.str,O H,by simp⟩) (λd x H R hd sm hx r=>?_) (λH' ys sm e h=>hQ H' ys sm e ?_)
 .erw[y,rfl,y];erw[(hl H').get hd,v,e1,e2];have:=y _ (O H');rw[e1,0] at this;exact[1:e2]
 .erw[Af.mp hd,z,_,rfl];erw[hx,rfl,hz,<-U z H R hz sm r]
 .rwa[uR] at h
def NN:∀{d:D},mO d=v_->∃own,d= .str own/\nm own=v_/\↑own<=100
 | .str z,h=>(z,1,h,by
  rcases Ua 24 ↑z with h1|h1
  .rw[show mO (!z)=nm z from rfl,CA (λq=>by omega)] at h
   rw[h,0]
  .omega)
def AX {n:Nat}:∀{ds:oj D},ds.all (λd=>(Qr n d).isSome)=v_->((ds.filterMap (Qr n)).map λr=>D.str (yW r))=ds/\↑(ds.filterMap (Qr n))=↑ds/\∀r>ds.filterMap (Qr n),jH n 300 r
 | [],_=>⟨1,1,λr h=>by simp at h⟩|d::ds,h=>by
  rw[vK,uB] at h;erw[X7 h.1,r,O];erw[AX h.2,i1,i2,i3];cases d with
  |str z=>
   obtain⟨h1,h2⟩:=Ck (show wE n z=u_ r from O)
   rw[Uu O];rw[_,by rw[ur,h2,i1],by rw[uw,uw,i2],λx U=>?_]
   rcases Ab.mp U with rfl|U
   .exact h1
   .exact i3 x U
  |_=>rw[O,0]
set_option tactic.hygienic true in
def Cm:∀{d:D}{rs:oj Rw},yf d=u_ rs->yg rs/\d=y9 rs
 | .tup ds,rs,h=>by
  rw[X6] at h;split at h
  .rename_i O
   rw[h,0];simp![uB,uT] at O;erw[O,[[h1,h2],h3],h4];erw[AX h3,U,i2,i3];let e:y9 (ds.filterMap (Qr ↑ds))=¬ds:=Aa D.tup U;exact⟨((),(),λr hr=>by rw[i2];exact i3 r hr,by rwa[e]),e.symm⟩
  .rw[h,0]
inductive My (C br bn:Addr)(vs:List V)(H:Hp)(Q:VK)(E:XK):Prop
 |mk (x dx:Addr)(v ov:V)(d od:D)(_:vs= [-x,v,ov])(_:H x=u_ (.ins C dx []))(_:Is H d v)(_:Is H od ov)(_:(yf d=U_->∀(e:Addr)(H':Hp),(∀b o,H b=u_ o->b≠x->H' b=u_ o)->E (-e) (u_ br) H'))(_:(yf d≠U_->mO od=Vt->∀(e:Addr)(H':Hp),(∀b o,H b=u_ o->b≠x->H' b=u_ o)->E (-e) (u_ bn) H'))(_:(∀(rs:List Rw)(own:Str),d=y9 rs->yg rs->od= .str own->nm own=v_->↑own<=100->∀(H':Hp)(db dg:Addr),(∀b o,H b=u_ o->b≠x->H' b=u_ o)->H db=U_->H dg=U_->yU C H' (x,db,dg,rs,own) (lC rs own [] 300 B0 1 0)->Q .non H'))
def Cy (T:Tx K mg a)(C:Fx K w mg g a):FnOk P w K mg base (CX1 P w) 6 a.jh a.xI ["self","rule","own"] (My a.qm g.br g.bn):=by
 let Q7:=#[Zf,T];let O:=#[AaX,T,C];let YN:=#[Ik,T,C];refine T.lr.F.okX Wi () (λ_ _ _ _ H _ Q E hr h=>?_)
 erw[h,x,dx,v,ov,d,od,rfl,hx,hv,ho,kR,kN,k];rw[3,%[#[Qj,#[qr,O,#[20],T.m7,zO,#v[pv 1]]],#[qK,#[Qv,#[Qh,#[qr,Q7,#[20],T.iV,qG,#v[pv 2]]]],%[|#[KU,22,C.x_BadName,_,C.wV,qh,_,_]],qu],#[Qj,pv 1],#[Qj,pv 2],#[Qj,#[qX,#[DQ,1,rfl],T.z_dict,Fb,#v[#[zW,["box"],[],Acn,#[KM,4,#[WV,C.m_BOXES]],(λ_ _ _ _ _ _=>#[qW,(0),(show VZ (["box"]:oj Str) by rw[12])]),(λ_ _ _ _ _ _=>#[qE,#v[pv 0,qh]])]]]],#[Qj,qj],#[Qj,qj],#[Qj,#[QN,qd]],#[Qj,qY]|#[Qe,#[QC,pv 0,T.qt,T.iZ,YN]]]]
 rw[0,v,d,1,hv,λrs am rv H1 s1 ir=>?_,λhn e H1 s1=>kR hn e H1 λb o h _=>s1 b o h]
 rw[0,x,_,dx,[],1,s1 _ _ hx,T.qt,T.Yj,()]
 let I0:Ini 0 H a.qm x dx [] H1:=[Vv _:s1 _ _ hx:λb o h _=>s1 _ _ h];erw[I0.put "rows" rv,I1,t1];let aB:=ir.mono t1;let htk:∀{n:Nat}{fs:oj (Str×V)}{H':Hp},Ini n H a.qm x dx fs H'->Tk H H':=λ{n fs H'} I=>⟨λb xs e=>I.kept b _ e (λz=>by rw[z,hx,0] at e),λb xs e=>⟨_,I.kept b _ e (λz=>by rw[z,hx,0] at e)⟩,λb xs e=>⟨_,I.kept b _ e (λz=>by rw[z,hx,0] at e)⟩⟩
 rw[0,ov,od,1,ho.mono (htk I1),λH3 s3=>[0:?_]];let I3:=I1.same s3;cases ad:mO od with
 |false=>exact lG ⟨1,λe=>kN (by rw[am];simp) ad e H3 I3.kept⟩|true=>
 refine iX ?_;erw[Cm am,hR,rfl];erw[NN ad,own,rfl,ad,ao];rw[show ov= .str own from ho.1,0]
 let n1:=hR.n1;let k:=k rs own rfl hR rfl ad ao;let aC:=aB.mono s3.tk
 rw[5]
 refine(0,0,x,_,dx,0,I3.at',T.qt,T.kl,by have:=I3.len;omega,?_)
 erw[I3.put "rule" v,I4,t4];let aD:=aC.mono t4
 rw[5]
 refine(0,0,x,_,dx,0,I4.at',T.qt,T.zL,by have:=I4.len;omega,?_)
 erw[I4.put "own" (!own),I5,t5];let aE:=aD.mono t5
 rw[_,g.boxes,0,C.boxes _,λaP A0 aF=>?_];refine AdK (tl:= []) C.boxes aF (λz H6 R hz s6 r=>[0:(sml rfl):λl hl=>r _ _ (qf hl _) (Is.new (ds:= [!z,-""]) (_,0,[1:hz],_,0,[1:yA ()],1) hl)]) λH6 ys s6 e6 i6=>?_
 rw[_,A0,0,AaF e6 i6,Og,(),λdb aa=>?_]
 let I6:=I5.same s6;let s7:ie H6 (upd H6 db (.dK (iy (BX.map λz=>(z,V.str ""))))):=qf aa _;let I7:=I6.same s7;let b7:=AbW aa;let aG:=(aE.mono s6.tk).mono s7.tk;let nx:∀b o,H b=u_ o->b≠x->b≠db:=λb o h n=>qi (I6.kept b o h n) aa;let U:x≠db:=qi I6.at' aa
 rw[5]
 refine(0,x,_,dx,0,I7.at',T.qt,T.Qz,by have:=I7.len;omega,?_)
 erw[I7.put "boxes" (-db),I8,t8];let b8:=b7.move t8 (qk U.symm);let aH:=aG.mono t8
 rw[5]
 refine(0,x,_,dx,0,I8.at',T.qt,T.Qo,by have:=I8.len;omega,?_)
 erw[I8.put "place" (.int 1),I9,t9];let b9:=b8.move t9 (qk U.symm);let aI:=aH.mono t9
 rw[5]
 refine(0,x,_,dx,0,I9.at',T.qt,T.yi,by have:=I9.len;omega,?_)
 erw[I9.put "done" (.int 0),ae,ap];let aJ:=b9.move ap (qk U.symm);let aq:=aI.mono ap
 rw[_,(sml rfl),λdg af=>?_];let ag:=qf af (.lst []);let ah:=ae.same ag;let aK:=aJ.same ag;let au:=aq.mono ag.tk;let ak:dg≠x:=(qi ae.at' af).symm
 rw[5]
 refine(0,x,_,dx,0,ah.at',T.qt,T.Y0,by have:=ah.len;omega,?_)
 erw[ah.put "given" (-dg),al,aw];let aL:=aK.move aw (qk U.symm);let ax:=au.mono aw
 rw[5]
 refine(0,x,_,dx,0,al.at',T.qt,T.qP,by have:=al.len;omega,?_)
 erw[al.put "there" .non,ac,ay];let aM:=aL.move ay (qk U.symm);let aA:=ax.mono ay;let hl:=ac.len
 rw[0,x,dx,0,ac.at',(Sk ()).meth _ ()]
 let aN:Is _ (y9 rs) v:=hv.mono (htk ac);let frs:∀{b:o3}{H2:Hp},(∀c o,H c=u_ o->c≠x->H2 c=u_ o)->H2 b=U_->b≠x->H b=none:=λ{b H2} k1 h1 n1=>by
  cases hc:H b with
  |none=>rfl|some o=>rw[k1 b o hc n1,0] at h1
 let aO:∀b o,H b=u_ o->b≠x->b≠dg:=λb o h n=>qi (ae.kept b o h n) af
 rw[5]
 refine((x,db,dg,rs,own),(B0,(1),(0),[],.non),1,(dx,_,rv,v,.non,[],ac.at',Sk (),aA,aN,aM,?_,1,1),1,Acj,ao,hR,Int.le_refl 1,by show(1:Int)<=(↑rs:Int)+1;omega,uN _,λH' m M=>k H' db dg (λb o h n=>m.kept b o (ac.kept b o h n) n (nx b o h n) (aO b o h n)) (frs I6.kept aa U.symm) (frs ae.kept af ak) M)
 rw[qk ak,qk ak,qg]
abbrev Jo (z:Str):Bool:=z.cps.toList.all QD
def Iq {y:Str}(h:Jo z=v_)(k:Jo y=v_):Jo (z++y)=true:=by
 unfold Jo at*;show(z.cps++y.cps).toList.all QD=v_;rw[TV,Vh,h,k];rfl
mutual
noncomputable def lw:D->Bool
 | .str z=>Jo z| .tup xs=>lwL xs|_=>Vt
noncomputable def lwL:oj D->Bool
 | []=>v_|x::r=>lw x&&lwL r
end
def qaK (z:Str):↑z=↑z.cps.toList:=by show z.cps.size=_;simp
def Lb (h:Jo z=v_)(O:↑z<=300):isT (!z)=true:=by
 let U:Qt z=true:=by
  unfold Qt;rwa[ua O,Tu]
 let e1:sz (!z)<=600:=by simp![sz];omega
 let e2:dp (!z)<=12:=by simp![dp];omega
 let e3:iW (!z)=true:=by simp![iW];exact U
 unfold isT;rw[e3,ua e1,ua e2]
 rfl
abbrev isP:D->Bool
 | .tup xs=>decide (↑xs=2)|_=>Vt
abbrev Ax:D->Bool
 | .tup [k,d]=>if eqD k (-"made")=v_ then mO d else(eqD k (-"leaf")||eqD k (-"rule"))&&isT d|_=>Vt
abbrev okS:D->Bool
 | .tup [k,_]=>OV k&&decide (dp k<=60)|_=>v_
inductive S5:Sp
 |mk (v:_)(d:_)(_:vs= [v])(_:Is H d v)(_:Q (.bl (isP d)) H)
inductive Eg:Sp
 |mk (v:_)(d:_)(_:vs= [v])(_:Is H d v)(_:okS d=v_)(_:∀H',ie H H'->Q (.bl (Ax d)) H')
inductive Aak (K:PySem.W.Frag):Sp
 |mk (q:Addr)(ns:List Int)(k:Int)(_:vs= [-q,.int k])(_:0<=k)(_:SqL K H q (ns.map V.int))(_:∀i:Int,Q (.int i) H)
def lD {b:Bool}{A B:Prop}(O:b=v_)(h:A):if b=v_ then A else B:=by rw[A6 O];exact h
def iU {b:Bool}{A B:Prop}(O:b=Vt)(h:B):if b=v_ then A else B:=by rw[A4 (by rw[O];exact uh)];exact h
def Aa1:#[T,1,a.f_is_pair,a.d_is_pair,["value"],S5]:=by
 rw[9,T.nU,Dp]
 erw[h,v,d,rfl,U,k];rw[3,%[|#[qp,#[pe_and,#[qw,#[Qb,2,rfl],T.qR,uW,#v[pv 0,#[Q6,.ty "tuple",T.QI,vx]]],#[kK,#[yQ,Qn,#[qw,JS,T.yt,uK,#v[pv 0]],qj,qx _]]]]]]
 rw[0,v,"tuple",tyD d,Zv d,1,U.ty,XL d,0];cases ht:Zv d with
 |false=>
  refine iX ?_;let e:isP d=false:=by cases d<;>first|rfl|simp[Zv] at ht
  rwa[e] at k
 |true=>
  obtain⟨xs,rfl⟩:∃xs,d=¬xs:=by cases d<;>simp[Zv] at ht;exact⟨0⟩
  erw[U,p,us,rfl,hp,O];let lu:=↑O;refine lG [0:.inr (p,us,1,.inr (SqT.of hp),λ_=>[1:?_])];let e:decide (V.int (↑us:Int)=V.int 2)=isP (¬xs):=by
   simp![isP,vc];constructor
   .intro h;have:=V.int.inj h;omega
   .intro h;rw[lu,h]
    rfl
  rwa[<-e] at k
def E6:#[T,3,a.Wf,a.wM,["value"],Eg]:=by
 let O:=#[Aa1,T];let Q7:=#[Zf,T];let yM:=#[jF,T];rw[9,T.nc,sK]
 erw[h,v,d,rfl,hv,hok,k];rw[3,%[#[qK,#[Qv,#[Qh,#[qr,O,#[20],T.nU,qG,#v[pv 0]]]],%[|#[qp,jC]],qu],#[qK,#[qo,#[Adq,1,hr.units],#[qL,qJ,pv 0,qj],qh],%[|#[qp,#[qr,Q7,#[20],T.iV,qG,#v[#[qL,qJ,pv 0,qj]]]]],qu]|#[qp,#[pe_and,#[yQ,#[OS,1,hr.units],#[qL,qJ,pv 0,qj],#[qE,#v[qh,qh]],#[w]],#[kK,#[qr,yM,#[20],T.lm,qG,#v[#[qL,qJ,pv 0,qj]]]]]]]]
 rw[0,v,0,hv,0];cases hP:isP d with
 |false=>
  refine lG ?_;let e:Ax d=false:=by
   cases d with
   |tup xs=>
    match xs,hP with
    | [],_=>rfl| [_],_=>rfl| [_,_],h=>simp[isP] at h|_::_::_::_,_=>rfl
   |_=>rfl
  have:=k H (ie.refl _);rwa[e] at this
 |true=>
  refine iX ?_;obtain⟨z,e,rfl⟩:∃z e,d=-[z,e]:=by
   cases d with
   |tup xs=>
    match xs,hP with
    | [],h=>simp[isP] at h| [_],h=>simp[isP] at h| [x,y],_=>exact[x:y:1]|_::_::_::_,h=>simp[isP] at h
   |_=>simp[isP] at hP
  erw[id hv,p,us,rfl,hp,x1,r1,rfl,h1,x2,r2,rfl,h2,h3];rw[show r2= [] from h3,0]
  let U:OV z=v_/\dp z<=60:=by simpa [okS] using hok
  rw[0,p,_,_,0,1,SqT.of hp,1,z,"made",h1,1,(),U.1,U.2,0]
  cases c:eqD z (-"made") with
  |true=>
   refine lG (0,p,_,_,0,1,SqT.of hp,1,x2,e,1,h2,λH' s'=>?_);have:=k H' s';simp![Ax,c,V5] at this;exact this
  |false=>
   refine iX (0,p,_,_,0,1,SqT.of hp,1,(sml rfl),λq hq=>?_);let s1:ie H (upd H q (-[-"leaf",-"rule"])):=qf hq _
   rw[_,z,q,["leaf","rule"],h1.mono s1.tk,1,.inr (SqT.of qg),(),U.1,U.2,0]
   let e2:(["leaf","rule"]:oj Str).any (λy=>eqD z (!y))=(eqD z (-"leaf")||eqD z (-"rule")):=by simp
   rw[e2];cases c2:(eqD z (-"leaf")||eqD z (-"rule")) with
   |true=>
    refine lG (0,p,_,_,0,1,SqT.of (s1 _ _ hp),1,x2,e,1,h2.mono s1.tk,λH' s'=>?_);have:=k H' (s1.trans s');simp![Ax,c,c2,Tu,uY,Uq] at this;exact this
   |false=>
    refine iX ?_;have:=k _ s1;simp![Ax,c,c2,FH,uY,Uq] at this;exact this
def Im:#[T,1,a.zt,a.zo,["script","k"],(Aak K)]:=by
 rw[9,T.iK,kf]
 erw[h,q,ns,j,rfl,h0,O,k];rw[3,%[#[qK,#[qo,Dy,pv 1,#[qw,qN,T.yt,uK,#v[pv 0]]],%[|#[qp,#[qL,yu,pv 0,pv 1]]],qu]|#[qp,qj]]]
 rw[0,0,q,0,.inl O,_,0,1,0];refine lz (λc=>?_) (λc=>?_)
 .let c':j<(↑(ns.map V.int):Int):=uq c;erw[YD h0 c',v,U];erw[Af.mp (jY U),i,_,rfl,<-(0,0,q,_,_,0,1,O,U,k _)]
 .exact k 0
def Bh {y:Str}(h:z.cps.toList=y.cps.toList):z=y:=by
 rw[z,0];rw[y,0];simp at h;rw[h]
abbrev okN (z:Str):Bool:=(z.cps.toList.map λc=>inS ⟨#[c]⟩ NSG).all id
def Am (h:nm z=v_):1<=↑z/\↑z<=24:=by
 by_cases c:1<=(↑z:Int)/\(↑z:Int)<=24
 .omega
 .rw[CA c,0] at h
abbrev Nms (zs:oj Str):Prop:=(∀z>zs,nm z=v_)/\zs.Nodup
mutual
theorem AdG:∀{d:D},lw d=v_->puD d=v_
 | .str z,_=>by simp[puD]| .tup xs,h=>by
  have:=lwL_pu (xs:=xs) (by simpa [lw] using h)
  simpa [puD] using this
 | .non,h=>by simp[lw] at h| .bl _,h=>by simp[lw] at h| .int _,h=>by simp[lw] at h| .lst,h=>by simp[lw] at h| .dct,h=>by simp[lw] at h
theorem lwL_pu:∀{xs:oj D},lwL xs=v_->puL xs=v_
 | [],_=>by simp[puL]|x::r,h=>by
  let h':lw x=v_/\lwL r=true:=by simpa [lwL] using h
  simp[puL,AdG h'.1,lwL_pu h'.2]
end
abbrev Zw (d:D):Prop:=(∃k e,d=-[!k,e])/\Ax d=v_/\lw d=v_/\sz d<=306
abbrev prD (p:Str×D):D:=-[.str p.1,p.2]
abbrev Aem (ps:#[23]):Prop:=Nms (#[17])/\∀p>ps,Zw p.2
def BC (h:okN z=v_):Jo z=true:=by
 unfold Jo;rw[U9];intro c U;have:=List.all_eq_true.mp h _ (Af.mpr [c:U:1]);rw[id,AbE] at this;let O:∀c>NSG.cps.toList,QD c=true:=by rw[12]
 exact O c (uq this)
def Iy (h:nm z=v_):okN z=true:=by
 let O:=Am h;cases h3:inS ⟨#[z.cps.getD 0 0]⟩ LET with
 |false=>rw[CB h3,0] at h|true=>
  rw[Ix () () h3] at h
  exact h
def Mt (h:nm z=v_):Zw (-[-"made",!z]):=by
 let O:=Am h;refine([_:0],?_,?_,by simp![sz,szL];show 1+(("made":Str).length+1+(↑z+1+0))<=306;have:("made":Str).length=4:=rfl;omega)
 .show(if eqD (-"made") (-"made")=v_ then nm z else(eqD (-"made") (-"leaf")||eqD (-"made") (-"rule"))&&isT (!z))=v_
  rw[A6 ()]
  exact h
 .have:Jo "made"=true:=by rw[12]
  simp![lw,lwL,this,BC (Iy h)]
  rfl
def wq {k:Str}{d:D}(O:k="leaf"\/k="rule")(h:isT d=v_)(U:lw d=v_)(hz:sz d<=300):Zw (-[!k,d]):=by
 let aa:↑k=4:=by rcases O with rfl|rfl<;>rfl
 refine([_:0],?_,?_,by simp![sz,szL];omega)
 .show(if eqD (!k) (-"made")=v_ then mO d else(eqD (!k) (-"leaf")||eqD (!k) (-"rule"))&&isT d)=v_
  let e1:eqD (!k) (-"made")=false:=by rcases O with rfl|rfl<;>rw[12]
  let e2:(eqD (!k) (-"leaf")||eqD (!k) (-"rule"))=true:=by rcases O with rfl|rfl<;>rw[12]
  rw[e1,e2,h]
  rfl
 .have:Jo k=true:=by
   rcases O with rfl|rfl<;>rw[12]
  simp![lw,lwL,this,U]
  rfl
def SS {d:D}(h:Zw d):okS d=true:=by
 erw[h,[k,e,rfl],_];simp[okS,OV,trD,dp]
def AcL {d:D}(h:Zw d):dp d<=13:=by
 erw[h,[k,e,rfl],h1,h2,_];let U:dp e<=12:=by
  let O:(if eqD (!k) (-"made")=v_ then mO e else(eqD (!k) (-"leaf")||eqD (!k) (-"rule"))&&isT e)=true:=h1
  split at O
  .cases e<;>simp[mO] at O<;>simp[dp]
  .rw[uB] at O;exact Jy O.2
 simp![dp,dpL];omega
def QJ (h:↑z<=16000000):Is H (!z) (!z):=[1:nj h]
def CU:∀a b c:oj Nat,VR b a=Vt->VR c b=Vt->VR c a=Vt
 | [],_,[],_,_=>rfl| [],_,_::_,_,_=>rfl|x::a,[],_,h,_=>by simp[VR] at h|x::a,y::b,[],_,h=>by simp[VR] at h|x::a,y::b,z::c,h1,h2=>by
  simp![VR,TF,pc,decide_eq_false_iff_not,Ve,ne_eq] at*;rw[_,()]
  by_cases e:z=x
  .refine .inr (CU a b c ?_ ?_)
   .rcases h1.2 with h|h
    .omega
    .exact h
   .rcases h2.2 with h|h
    .omega
    .exact h
  .exact .inl e
def BL:∀a b:oj Nat,VR a b=Vt->VR b a=Vt->a=b
 | [],[],_,_=>rfl| [],_::_,h,_=>by simp[VR] at h|_::_,[],_,h=>by simp[VR] at h|x::a,y::b,h1,h2=>by
  simp![VR,TF,pc,decide_eq_false_iff_not,Ve,ne_eq] at*;let e:x=y:=by omega
  subst e;rw[BL a b (by rcases h1.2 with h|h;exact A9 rfl h;exact h) (by rcases h2.2 with h|h;exact A9 rfl h;exact h)]
def sS:∀(l:oj Str) (p:Str),risingS p l=v_->(p::l).Pairwise (λa b=>VR b.cps.toList a.cps.toList=Vt)
 | [],p,_=>List.pairwise_singleton ..|x::r,p,h=>by
  let h':(!(VR) x.cps.toList p.cps.toList&&risingS x r)=true:=h;rw[uB,ph] at h';let U:=sS r x h'.2;refine List.pairwise_cons.mpr [λb O=>?_:U];rcases Ab.mp O with rfl|O
  .exact h'.1
  .exact CU _ _ _ h'.1 (List.rel_of_pairwise_cons U O)
variable {l:oj Str}
def WX (h:HJ l=v_):l.Pairwise (λa b=>VR b.cps.toList a.cps.toList=Vt):=by
 cases l with
 |nil=>exact Fy|cons x r=>exact sS r x h
def Dm {m:oj Str}(h1:HJ l=v_)(h2:HJ m=v_)(h:l.Perm m):l=m:=
 rD (λa b _ _ x y=>Bh (BL _ _ y x)) (WX h1) (WX h2) h
abbrev qH (ps:#[23])(z:Str):D:=((ps.find? λp=>decide (p.1=z)).map (·.2)).getD .non
abbrev XZ (vs:oj (Str×V))(z:Str):V:=(lh (iy vs) (Vx z)).getD .non
def Wh (p:Str×V)(r:oj (Str×V)):iy (p::r)=(Vx p.1,p.2)::iy r:=rfl
def kg {H:Hp}{z:Str}:∀{ps:#[23]}{vs:oj (Str×V)},vs.map (·.1)=#[17]->IsL H (ps.map (·.2)) (vs.map (·.2))->z>#[17]->lh (iy vs) (Vx z)=u_ (XZ vs z)/\Is H (qH ps z) (XZ vs z)
 | [],_,_,_,h=>nomatch h|p::ps,[],e,_,_=>by simp at e|p::ps,v::vs,e,hi,hz=>by
  simp![ur,U2] at e;erw[hi,u,r,e2,h1,h2];simp![ur,U2] at e2;erw[e2,rfl,rfl];by_cases c:p.1=z
  .let O:v.1=z:=e.1.trans c;let U:lh (iy (v::vs)) (Vx z)=u_ v.2:=by
    rw[Wh];exact QU (by rw[O])
   let e4:qH (p::ps) z=p.2:=by simp[qH,uS,c]
   unfold XZ;rw[U,e4];exact[1:h1]
  .let O:¬v.1=z:=λq=>c (e.1.symm.trans q);let U:lh (iy (v::vs)) (Vx z)=lh (iy vs) (Vx z):=by
    rw[Wh];exact QL (λq=>O (UM q))
   let e4:qH (p::ps) z=qH ps z:=by simp[qH,uS,c]
   let aa:z>#[17]:=by
    rcases Ab.mp hz with h|h
    .exact A9 h.symm c
    .exact h
   let ih:=kg e.2 h2 aa;unfold XZ at*;rw[U,e4];exact ih
def DG {z:Str}:∀{vs:oj (Str×V)},z∉vs.map (·.1)->lh (iy vs) (Vx z)=U_
 | [],_=>rfl|v::vs,h=>by
  rw[Wh,QL (λq=>h (by rw[<-UM q];exact uj ..))]
  exact DG λm=>h (ui _ m)
def OH:∀{ps:#[23]},(#[17]).Nodup->(#[17]).map (λz=>(z,qH ps z))=ps
 | [],_=>rfl|p::ps,h=>by
  let h':=List.nodup_cons.mp h;let O:qH (p::ps) p.1=p.2:=by simp[qH,uS]
  rw[ur,ur,O]
  congr 1
  refine Eq.trans (Uz λz hz=>?_) (OH h'.2);have:¬p.1=z:=λq=>h'.1 (by show p.1>_;rwa[q])
  simp[qH,uS,this]
abbrev Dh (ps:#[23])(ms:oj Str):#[23]:=ms.map λz=>(z,qH ps z)
def qau (ps:#[23])(O:oj Str):(Dh ps O).map (·.1)=O:=by
 unfold Dh;rw[uR];exact(Uz λ_ _=>rfl).trans (tQ O)
variable {ps:#[23]}
def Ca {O:oj Str}(hn:(#[17]).Nodup)(h:O.Perm (#[17])):(Dh ps O).Perm ps:=by
 have:=h.map λz=>(z,qH ps z);rwa[OH hn] at this
abbrev yX (C:o3)(H:Hp)(x:o3)(qs:#[23]):Prop:=∃(dx d:o3) (o:Obj) (vs:oj (Str×V)),H x=u_ (.ins C dx [("by_name",-d)])/\H d=u_ (.frz o (.dK (iy vs)))/\vs.map (·.1)=#[15]/\L2.IsL H (qs.map (·.2)) (vs.map (·.2))
variable {qs:#[23]}
def yX.same {x:o3}(h:yX C H x qs)(s:ie H H'):yX C H' x qs:=by
 erw[h,dx,d,o,vs,h1,h2,h3,h4,<-(dx,d,o,vs,s _ _ h1,s _ _ h2,h3,h4.mono s.tk)]
abbrev yb (qs:#[23]):Prop:=Aem qs/\HJ (#[15])=v_/\↑qs<=60
inductive Aae (C:Addr):Sp
 |mk (x dx t:Addr)(ps:List (Str×D))(us:List V)(_:vs= [-x,-t])(_:H x=u_ (.ins C dx []))(_:H t=u_ (¬us))(_:L2.IsL H (ps.map prD) us)(_:Aem ps)(_:↑ps<=60)(_:∀(qs:List (Str×D))(H':Hp),(∀b o,H b=u_ o->b≠x->H' b=u_ o)->yX C H' x qs->yb qs->qs.Perm ps->Q .non H')
def Nms.perm {m:oj Str}(h:Nms m)(p:l.Perm m):Nms l:=[λz hz=>h.1 z (p.mem_iff.mp hz):(p.nodup_iff).mpr h.2]
def AK {d:D}(hn:(#[17]).Nodup)(h:(z,d)>ps):qH ps z=d:=by
 induction ps with
 |nil=>rw[h,0]|cons p r ih=>
  let O:=List.nodup_cons.mp hn;rcases Ab.mp h with h|h
  .subst h;simp[qH,uS]
  .have:¬p.1=z:=λq=>O.1 (by show p.1>_;rw[q];exact Af.mpr [_:h:1])
   let U:=ih O.2 h
   simpa [qH,uS,this] using U
def LP (hn:(#[17]).Nodup)(h:z>#[17]):(z,qH ps z)>ps:=by
 erw[Af.mp h,p,O,rfl];rw[AK hn (show(p.1,p.2)>ps from O)]
 exact O
def Oa (hn:(#[17]).Nodup)(O:qs.Perm ps)(h:z>#[17]):qH qs z=qH ps z:=by
 let U:(#[15]).Nodup:=((O.map _).nodup_iff).mpr hn;exact AK U (O.mem_iff.mpr (LP hn h))
def Ct {H:Hp}:∀{ps:#[23]}{us:oj V},L2.IsL H (ps.map prD) us->∃(ts:oj o3) (vs:oj (Str×V)),us=ts.map V.ref/\↑ts=↑vs/\(∀(i:Nat) (t:o3) (p:Str×V),ts[i]? =u_ t->vs[i]? =u_ p->H t=u_ (-[.str p.1,p.2]))/\vs.map (·.1)=#[17]/\L2.IsL H (ps.map (·.2)) (vs.map (·.2))
 | [],us,h=>([],[],h,1,λi t p h=>by simp at h,1,1)|p::r,us,h=>by
  erw[h,v,q,rfl,O,h2];erw[O,t,ws,rfl,U,x1,r1,rfl,[rfl,hz],x2,r2,rfl,h4,h5];rw[show r2= [] from h5,0]
  erw[Ct h2,ts,vs,rfl,e1,e2,e3,e4];rw[_,t::ts,(p.1,x2)::vs,1,by simp[e1],λi t' p' h6 h7=>?_,by simp[e3],(_,0,h4,e4)]
  cases i with
  |zero=>
   rw[h6,0];rw[h7,0];exact U
  |succ i=>exact e2 i t' p' (by simpa using h6) (by simpa using h7)
def Ade {l:#[23]}(hN:∀p>l,nm p.1=v_)(hS:∀p>l,Zw p.2):lw (.tup (l.map prD))=v_/\dp (.tup (l.map prD))<=16:=by
 let O:∀l:#[23],(∀p>l,nm p.1=v_)->(∀p>l,Zw p.2)->lwL (l.map prD)=v_/\dpL (l.map prD)<=14:=by
  intro l
  induction l with
  |nil=>exact λ_ _=>⟨1,by simp[dpL]⟩|cons p r ih=>
   intro h1 h2;obtain⟨i1,i2⟩:=ih (λq U=>h1 q (ui _ U)) λq U=>h2 q (ui _ U);let g1:=BC (Iy (h1 p (uj ..)));let g2:=h2 p (uj ..);let g3:=AcL g2;rw[_,?_,?_]
   .rw[ur];simp![lwL,prD,lw,g1,g2.2.2.1,i1]
    rfl
   .rw[ur];simp![dpL,prD,dp];omega
 erw[O l hN hS,h1,h2,<-⟨by simpa only [lw] using h1,by simp![dp];omega⟩]
def Lg (vs:oj (Str×V))(z:Str)(v:V):iy (vs++ [(z,v)])=iy vs++ [(Vx z,v)]:=by
 unfold iy;rw[uA]
 rfl
def AgJ {α β:Type}(f:α->β){l:oj α}(h:i<↑l):(l.map f)[i]? =u_ (f l[i]):=by
 rw[uG,um h]
 rfl
def Mq {α:Type}{l:oj α}(h:i<↑l):l.take (i+1)=l.take i++ [l[i]]:=by
 rw[vk,um h]
 rfl
def Ij:#[T,4,a.ji,a.xT,["self","sources"],(Aae a.qI)]:=by
 let Q7:=#[Zf,T];let U:=#[E6,T];refine T.iD.F.ok yP () (λ_ _ _ _ H vs Q E hr h=>?_)
 erw[h,x,dx,t,ps,us,rfl,hx,ht,aq,hok,aM,k];let hs:=uF;rw[3,%[#[qy,2,(2),4,yP.nd,rfl,GL rfl,xn,_,_],#[YH,#[Cq,4,pv 1],#[EL,6,rfl,YE #[qW,(3),yP.nd] (YE #[qW,(4),yP.nd] qak),_,_],%[#[qK,#[Qv,#[Qh,#[qr,Q7,#[20],T.iV,qG,#v[pv 3]]]],%[|xt],qu],#[qK,#[Qv,#[Qh,#[qr,U,#[20],T.nc,qG,#v[pv 4]]]],%[|xt],qu],#[qK,#[xQ,#[kU,pv 3,pv 2]],%[|xt],qu],#[qK,#[qo,Qn,#[qw,LX,T.yt,uK,#v[pv 2]],#[qaa,T.m_MOST_NAMES]],%[|xt],qu]|#[jj,pv 2,pv 3,pv 4]]]|#[Qj,#[qX,#[kE,1,rfl],T.z_dict,Fb,#v[#[zW,["name","by_name"],[2],Mf (ql Ym) ["self","sources","by_name","name","source"],#[Zy,#[qw,#[AR,1,rfl],T.qaz,rf,#v[pv 2]]],(λ_ _ _ _ _ _=>#[qW,(0),(show VZ (["name","by_name"]:oj Str) by rw[12])]),(λ_ _ _ _ _ _=>#[qE,#v[pv 0,#[Qq,pv 1,pv 0]]])]]]]]]
 intro d hd;let s1:ie H (upd H d (.dK [])):=qf hd _;let aN:d≠x:=λe=>by rw[e,hx,0] at hd
 let au:=↑aq;rw[uc] at au
 rw[5]
 refine⟨0,t,1,[_:SqT.of (s1 _ _ ht)],qaI (K:=K) (a:=t) (xs:=us) (λi σ H'=>∃(vs:oj (Str×V)) (nv sv:om V),σ= [u_ (-x),u_ (-t),u_ (-d),nv,sv]/\ie H H'/\H' d=u_ (.dK (iy vs))/\vs.map (·.1)=(ps.take i).map (·.1)/\L2.IsL H' ((ps.take i).map (·.2)) (vs.map (·.2)))
  ([],U_,U_,1,s1,qg,1,1) (λi σ H' _ ⟨_,_,_,_,sm,_⟩=>SqT.of (sm _ _ ht)) ?_ ?_⟩
 .rintro i y σ H' hi ⟨vs,nv,sv,rfl,sm,ad,hk,hv⟩;let aO:i<↑us:=(Ah.mp hi).1;let aa:i<↑ps:=by omega
  erw[aq.get (AgJ prD aa),v,e1,e2];rw[hi,0] at e1;let aw:=hok.2 _ (v9 aa);let aC:nm ps[i].1=true:=hok.1.1 _ (Af.mpr [_:v9 aa:1]);erw[aw,[sk,sd,aP],aD,aQ];erw[e2,p,ws,rfl,hp,w1,r1,rfl,[rfl,hz],w2,r2,rfl,h2,h3];rw[show r2= [] from h3,0]
  let aE:=sm _ _ hp
  rw[_,p,0,SqT.of aE,1,_,0,_,0,1]
  rw[0,_,.str ps[i].1,1,[1:hz],λH3 s3=>⟨0,iU (by simp[mO,aC]) ?_⟩]
  let ax:Is H3 ps[i].2 w2:=h2.mono (sm.trans s3).tk
  rw[0,w2,ps[i].2,1,ax,SS (hok.2 _ (v9 aa)),λH4 s4=>⟨0,iU (by rw[aD];rfl) ?_⟩]
  let ag:=s3.trans s4;let ae:=ag _ _ ad;let nk:ps[i].1∉vs.map (·.1):=by
   rw[hk];let ac:=hok.1.2;let e:#[17]=(ps.take i).map (·.1)++ps[i].1::(ps.drop (i+1)).map (·.1):=by
    rw[<-ur (f:=λx:Str×D=>x.1),<-vt aa,<-uA,Rj]
   rw[e,rG] at ac;exact λm=>ac.2.2 _ m _ (uj ..) rfl
  let ev:=DG nk;let aF:↑vs=i:=by
   have:=Aa Gi hk;rw[uc,uc,U6] at this;omega
  rw[0,0,d,0,mW.k (k:=Vx ps[i].1) ae,0,iU (by rw[ev];rfl) ?_]
  rw[0,d,0,ae,1,0,iU (ub λq=>?_) ?_]
  .have:=V.int.inj q;unfold iy at this;rw[uc] at this;omega
  .let aG:↑(iy vs)<sizeLine:=by
    unfold iy;rw[uc];omega
   rw[0,0,0,d,0,DW.k (k:=Vx ps[i].1) ae aG];let tk:Tk H4 (upd H4 d (.dK (mo (iy vs) (Vx ps[i].1) w2))):=Tk.updD ae
   rw[_,vs++ [(ps[i].1,w2)],_,0,?_,?_,?_,?_]
   .intro b o e;rw[qk (qi e hd)];exact(sm.trans ag) _ _ e
   .rw[qg,qao _ ev,Lg]
   .rw[Mq aa,uA,uA,hk]
    rfl
   .rw[Mq aa,uA,uA];exact(((hv.mono ag.tk).mono tk)).append (L2.IsL.one ((ax.mono s4.tk).mono tk))
 .rintro σ H1 ⟨vs,nv,sv,rfl,sm,ad,hk,hv⟩;rw[au,vN] at hk hv;let aF:↑vs=↑ps:=by
   have:=Aa Gi hk
   rwa[uc,uc] at this
  let ah:(iy vs).map (·.1)=(#[17]).map Sum.inr:=by rw[wC,hk]
  rw[5]
  refine⟨0,d,iy vs,#[17],1,ad,ah,by rw[uc];omega,λms q O ak hq=>(q,1,[_:SqL.of qg],λA0 al=>?_)⟩
  let s2:ie H1 (upd H1 q (.lst (ms.map V.str))):=qf hq _;let aR:↑ms=↑ps:=by
   have:=O.length_eq
   rwa[uc] at this
  refine Abx (K:=K) (tl:= [u_ (-d)]) (λi ys H'=>∃ts:oj o3,ys=ts.map V.ref/\↑ts=i/\ie H1 H'/\H' A0=u_ (.lst ys)/\∀(j:Nat) (t:o3) (z:Str),ts[j]? =u_ t->ms[j]? =u_ z->H' t=u_ (-[!z,XZ vs z])) qg () al
   ([],1,1,s2.trans (qf al _),qg,λj t z h=>by simp at h) ?_ ?_
  .rintro i z ys H' hz ⟨ts,rfl,af,s3,hA,am⟩ _ _ _ R r;let aH:z>#[17]:=O.mem_iff.mp (uL hz);let lk:=kg hk hv aH
   rw[0,0,0,d,XZ vs z,1,?_,(sml rfl),λt2 ao=>?_]
   .have:=mW.k (k:=Vx z) (s3 _ _ ad);rwa[lk.1] at this
   .let s4:=qf ao (-[V.str z,XZ vs z]);let aI:t2≠A0:=λe=>by rw[e,hA,0] at ao
    refine r _ _ (s4 _ _ hA) (s4 _ _ (by assumption)) (ts++ [t2],by rw[uA];rfl,by rw[uE,af];rfl,?_,qg,?_)
    .intro b o e;let nb:b≠A0:=qi (s2 _ _ e) al;rw[qk nb];exact s4 _ _ (s3 _ _ e)
    .intro j t z' h1 h2;rcases Ua j i with hj|hj
     .rw[V8 ()] at h1
      have:=am j t z' h1 h2;let nb:t≠A0:=λe=>by rw[e,hA,0] at this
      rw[qk nb];exact s4 _ _ this
     .have aJ:j=i:=by
       have:=(Ah.mp h1).1;rw[uE] at this;have:j<↑ts+1:=this;omega
      subst aJ;rw[hz,0] at h2;rw[V3 (),af,Nat.sub_self] at h1
      rw[h1,0];rw[qk aI];exact qg
  .rintro ys H2 ⟨ts,rfl,af,s3,hA,am⟩ _;let ac:=hok.1.2;let aK:ms.Nodup:=O.nodup_iff.mpr ac;let ay:(ms.map λz=>(z,XZ vs z)).map (·.1)=ms:=by
    rw[uR];exact(Uz λ_ _=>rfl).trans (tQ ms)
   rw[5]
   refine(A0,ms.map λz=>(z,XZ vs z),1,(ts,hA,by rwa[uc],λj t p h1 h2=>?_),by rwa[ay],by rw[uc];omega,λq2 o ap=>?_)
   .rw[uG] at h2;cases h3:ms[j]? with
    |none=>rw[h3,0] at h2|some z=>
     rw[h3,0] at h2;exact am j t z h1 h3
   .let s4:=qf ap (.frz o (.dK (iy (ms.map λz=>(z,XZ vs z)))));let aA:H1 x=u_ (.ins a.qI dx []):=sm _ _ hx;let aB:=s4 _ _ (s3 _ _ aA);let nq:q2≠x:=λe=>by rw[e,s3 _ _ aA,0] at ap
    rw[0,x,a.qI,dx,[],1,aB,T.yR,T.QP,(by show 0<1000;decide)]
    refine k (Dh ps ms) _ ?_ (dx,q2,o,ms.map λz=>(z,XZ vs z),qg,by rw[qk nq];exact qg,by rw[ay,qau],?_) ⟨[?_:?_],by rwa[qau],by unfold Dh;rw[uc];omega⟩ (Ca ac O)
    .intro b ob e nb;rw[qk nb];exact s4 _ _ (s3 _ _ (sm _ _ e))
    .let tk:Tk H1 (upd (upd H2 q2 (.frz o (.dK (iy (ms.map λz=>(z,XZ vs z)))))) x (.ins a.qI dx (iH "by_name" (-q2) []))):=(s3.trans s4).tk.trans (Tk.updI aB);let aL:∀l:oj Str,(∀z>l,z>#[17])->L2.IsL H1 ((Dh ps l).map (·.2)) ((l.map λz=>(z,XZ vs z)).map (·.2)):=by
      intro l
      induction l with
      |nil=>exact λ_=>rfl|cons z r ih=>exact λh=>(_,0,(kg hk hv (h z (uj ..))).2,ih λy hy=>h y (ui _ hy))
     exact(aL ms λz hz=>O.mem_iff.mp hz).mono tk
    .rw[qau];exact hok.1.perm O
    .intro p hp;exact hok.2 p ((Ca ac O).mem_iff.mp hp)
def C3:G7 ("by_name":Str) [(("by_name":Str),v)]=u_ v:=by simp[G7]
inductive kJ (C:Addr):Sp
 |mk (x:Addr)(qs:List (Str×D))(_:vs= [-x])(_:yX C H x qs)(_:yb qs)(_:∀(v:V)(H':Hp),ie H H'->Is H' (.tup (qs.map prD)) v->Q v H')
def Adc {H:Hp}{qs:#[23]}{vs:oj (Str×V)}{ts:oj o3}(O:vs.map (·.1)=#[15])(hi:L2.IsL H (qs.map (·.2)) (vs.map (·.2)))(U:↑ts=↑vs)(hz:∀p>qs,↑p.1<=100)
  (ht:∀(j:Nat) (t:o3) (p:Str×V),ts[j]? =u_ t->vs[j]? =u_ p->H t=u_ (-[.str p.1,p.2])):L2.IsL H (qs.map prD) (ts.map V.ref):=by
 induction qs generalizing vs ts with
 |nil=>
  have:vs= []:=by simpa using O
  subst this;have:ts= []:=by simpa using U
  subst this
  rfl
 |cons q qs ih=>
  cases vs with
  |nil=>simp at O|cons v vs=>
   cases ts with
   |nil=>simp at U|cons t ts=>
    simp![ur,U2] at O;erw[hi,u,r,e2,h1,h2];simp![ur,U2] at e2;erw[e2,rfl,rfl];let e0:=ht 0 t v rfl rfl;let hq:=hz q (uj ..);refine(_,0,(t,0,e0,(_,0,⟨by rw[O.1],nj ()⟩,_,0,h1,1)),ih O.2 h2 (by simpa using U) (λp hp=>hz p (ui _ hp)) λj t' p h3 h4=>ht (j+1) t' p (by simpa using h3) (by simpa using h4))
def ZO:G7 ("source_of":Str) [(("by_name":Str),v)]=none:=by
 have:(("source_of":Str)=="by_name")=false:=by rw[12]
 simp[G7,this]
inductive wD (C:Addr):Sp
 |mk (x:Addr)(z:Str)(qs:List (Str×D))(_:vs= [-x,!z])(_:yX C H x qs)(_:∀v:V,(z>#[15]->Is H (qH qs z) v)->(z∉#[15]->v= .non)->Q v H)
def Dz:#[T,1,a.jw,a.js,["self"],(kJ a.qI)]:=by
 refine T.iS.F.ok zK () (λ_ _ _ _ H vs Q E hr h=>?_)
 erw[h,x,qs,rfl,[dx,d,o,vs,U,hd,hk,hv],hT,k];rw[3,%[|#[qp,#[Bv,8,rfl,_,T.QI,vx,#[qQ,5,pv 0,rfl],_,_,_,_,_,_]]]]
 rw[0,x,a.qI,dx,_,0,U,T.yR,T.QP,C3,d,iy vs,1,.inr [o:hd],λt ts H2 s2 _ ht O=>?_];refine k _ H2 s2 (t,0,ht,Adc hk (hv.mono s2.tk) ?_ (λp hp=>?_) λj t' p h1 h2=>?_)
 .have:=O.1;unfold iy at this
  rwa[uc] at this
 .have:=Am (hT.1.1.1 p.1 (Af.mpr [p:hp:1]));omega
 .have:=O.2 j t' (Vx p.1,p.2) h1 (by unfold iy;rw[uG,h2];rfl)
  exact this
def WJ:#[T,1,a.YY,a.YU,["self","name"],(wD a.qI)]:=by
 refine T.iJ.F.ok xB () (λ_ _ _ _ H vs Q E U h=>?_)
 erw[h,x,z,qs,rfl,[dx,d,o,vs,hx,hd,O,hv],k];rw[3,%[|#[qp,#[Cs,7,Qs U,#[qQ,5,pv 0,rfl],pv 1,(1,1,1,1)]]]]
 rw[0,x,a.qI,dx,_,0,hx,T.yR,T.QP,C3,d,1,.inl [_:.inr [o:hd]],0,_,.inl (_,Vx z,.inr [o:hd],1,1)];refine k _ (λc=>?_) λc=>?_
 .exact(kg O hv c).2
 .rw[DG (by rwa[O])]
  rfl
abbrev Be (zs:oj Str):D:= .tup (zs.map D.str)
abbrev Bf (acc:oj Str):oj Str->oj Str
 | []=>acc|z::r=>if isT (Be (acc++ [z]))=v_ then Bf (acc++ [z]) r else acc
inductive KG (K:PySem.W.Frag):Sp
 |mk (L:Addr)(zs:List Str)(_:vs= [-L])(_:H L=u_ (.lst (zs.map V.str)))(_:(∀z>zs,↑z<=100))(_:↑zs<=100)(_:∀(v:V)(H':Hp),ie H H'->Is H' (Be (Bf [] zs)) v->Q v H')
variable {xs:oj V}{Q:VK}
def AfH {K:o0}{a:o3}{x:V}(ha:H a=u_ (¬xs))(O:↑xs+1<=Vw)(k:∀p H',ie H H'->H' p=u_ (.tup (xs++ [x]))->Q (-p) H'):
  [x].length<=Vw/\∀q,H q=U_->MS K (-a) (-q) (upd H q (-[x])) Q:=by
 rw[_,sml rfl,λq U=>?_];let s1:ie H (upd H q (-[x])):=qf U _;rw[_,a,q,xs,[x],1,1,SqT.of (s1 _ _ ha),SqT.of qg,O,λe=>?_,(λ_ e=>by rw[e,0]),λ_ _ p hp=>?_]
 .refine k q _ s1 ?_;rw[e];exact qg
 .exact k p _ (s1.trans (qf hp _)) qg
variable {zs:oj Str}{p:o3}
def La (h:H p=u_ (.tup (zs.map V.str)))(hz:∀z>zs,↑z<=100):Is H (Be zs) (-p):=by
 let O:∀(zs:oj Str),(∀z>zs,↑z<=100)->IsL H (zs.map D.str) (zs.map V.str):=by
  intro zs
  induction zs with
  |nil=>exact λ_=>rfl|cons z r U=>
   intro h;exact(_,0,⟨1,nj (by have:=h z (uj ..);omega)⟩,U λy hy=>h y (ui _ hy))
 exact(p,0,h,O zs hz)
def Cl:∀(zs O:oj Str) (z:Str),z>Bf O zs->z>O\/z>zs
 | [],O,z,h=> .inl h|y::r,O,z,h=>by
  unfold Bf at h;split at h
  .rcases Cl r _ z h with h|h
   .rcases Ae.mp h with h|h
    .exact .inl h
    .exact .inr (by rw[Ac.mp h];exact uj ..)
   .exact .inr (ui _ h)
  .exact .inl h
inductive Em (C:Addr):Sp
 |mk (x t:Addr)(kind text:Str)(qs:List (Str×D))(_:vs= [-x,-t])(_:yX C H x qs)(_:yb qs)(_:H t=u_ (-[!kind,!text]))(_:↑text<=1000)(_:((kind="has"/\Q (.str (if text>#[15] then "yes" else "no")) H)\/(kind="names"/\∀(v:V)(H':Hp),ie H H'->Is H' (Be (Bf [] ((#[15]).filter λz=>VS z text))) v->Q v H')))
def qal {vs:oj (Str×V)}(O:vs.map (·.1)=#[15])(hi:L2.IsL H (qs.map (·.2)) (vs.map (·.2)))(z:Str):(lh (iy vs) (Vx z)).isSome=decide (z>#[15]):=by
 by_cases c:z>#[15]
 .rw[(kg O hi c).1,ua c]
  rfl
 .rw[DG (by rw[O];exact c),ub c]
  rfl
def DB:#[T,3,a.zm,a.X9,["names"],(KG K)]:=by
 let yM:=#[jF,T];rw[9,T.mD,Yl]
 erw[h,L,zs,rfl,hL,hz,hn,k];let hs:=uF;rw[3,%[#[qy,(1),Yl.nd,#[qE,qd]],#[YH,#[Zy,pv 0],#[qW,(2),Yl.nd],%[#[qK,#[Qv,#[Qh,#[qr,yM,#[20],T.lm,qG,#v[#[qV,XI,pv 1,#[qE,#v[pv 2]]]]]]],%[|MV],qu]|#[qy,(1),Yl.nd,#[qV,XI,pv 1,#[qE,#v[pv 2]]]]]]|#[qp,pv 1]]]
 rw[_,(sml rfl),λq hq=>?_];let s1:ie H (upd H q (-[])):=qf hq _
 rw[5]
 refine(0,L,1,[_:SqL.of (s1 _ _ hL)],zy (K:=K) (a:=L) (xs:=zs.map V.str) (λi σ H'=>∃(row:oj Str) (p:o3) (kv:om V),σ= [u_ (-L),u_ (-p),kv]/\H' p=u_ (.tup (row.map V.str))/\ie H H'/\Bf row (zs.drop i)=Bf [] zs/\↑row<=i/\∀z>row,z>zs)
  ([],q,U_,1,qg,s1,1,Vv _,λz h=>nomatch h) (λi σ H' _ ⟨_,_,_,_,_,s2,_⟩=>SqL.of (s2 _ _ hL)) ?_ ?_)
 .rintro i x σ H' hi ⟨row,p,kv,rfl,hp,s2,O,hl,hm⟩;let U:i<↑zs:=by
   have:=(Ah.mp hi).1
   simpa using this
  obtain rfl:x=V.str zs[i]:=by
   rw[uG,um U] at hi;exact(uJ hi).symm
  let ed:zs.drop i=zs[i]::zs.drop (i+1):=vt U;rw[ed] at O;rw[show Bf row (zs[i]::zs.drop (i+1))=if isT (Be (row++ [zs[i]]))=v_ then Bf (row++ [zs[i]]) (zs.drop (i+1)) else row from rfl] at O
  let aa:∀z>row++ [zs[i]],z>zs:=λz h=>by
   rcases Ae.mp h with h|h
   .exact hm z h
   .rw[Ac.mp h];exact v9 U
  let hsz:↑(row.map V.str)+1<=sizeLine:=by rw[uc];omega
  let em:row.map V.str++ [V.str zs[i]]=(row++ [zs[i]]).map V.str:=by simp
  rw[0,0,AfH hp hsz λp2 H3 s3 h3=>(_,Be (row++ [zs[i]]),1,La (by rw[h3,em]) λz h=>hz z (aa z h),λH4 s4=>[0:?_])]
  cases hT:isT (Be (row++ [zs[i]])) with
  |false=>
   rw[A4 (by rw[hT];exact uh)] at O
   refine lG [0:k _ H4 ((s2.trans s3).trans s4) ?_];rw[<-O];exact La (s4 _ _ (s3 _ _ hp)) λz h=>hz z (hm z h)
  |true=>
   rw[A6 hT] at O;refine iX [0:0:AfH (s4 _ _ (s3 _ _ hp)) hsz λp5 H5 s5 h5=>?_];exact(row++ [zs[i]],p5,0,by rw[h5,em],((s2.trans s3).trans s4).trans s5,O,by rw[uE];show ↑row+1<=i+1;omega,aa)
 .rintro σ H' ⟨row,p,kv,rfl,hp,s2,O,hl,hm⟩
  rw[0,k _ H' s2 ?_];rw[uc,List.drop_length] at O;rw[<-O];exact La hp λz h=>hz z (hm z h)
def Ig:#[T,4,a.YL,a.YT,["self","ask"],(Em a.qI)]:=by
 let U:=#[DB,T];refine T.jS.F.ok xF () (λ_ _ _ _ H vs Q E hr h=>?_)
 erw[h,x,t,kind,text,qs,rfl,[dx,d,o,vs,hx,hd,hk,hv],hT,ht,ad,h];let hs:=uF;rw[3,%[#[qK,#[qo,Qn,#[qL,qJ,pv 1,qj],qh],%[|#[qp,#[yd,#[xQ,#[kU,#[qL,qJ,pv 1,qj],#[qQ,5,pv 0,rfl]]],qh,qh]]],qu]|#[qp,#[qr,U,#[20],T.mD,qG,#v[#[zW,2,["name","ask"],(1),[1],9,Mf (ql QW) ["self","ask"],rfl,#[KY,4,#[qQ,5,pv 0,rfl]],(λ_ _ _ _ _ _=>#[qW,(0),(show VZ (["name","ask"]:oj Str) by rw[12])]),(λ_ _ _ _ _ _=>#[Bu,3,#[Qh,#[Adm,1,K,11,rfl,uZ,PySem.F.slot_str_startswith,PySem.F.type_str_startswith,ID,pv 0,#v[#[qL,#[AbB,1,K,rfl],pv 1,qj]],_,_,_,_,_]]]),(λ_ _ _ _ _ _=>(pv 0)),_]]]]]]
 rw[0,t,_,_,0,1,SqT.of ht,1,1,0];rcases h with⟨rfl,k⟩|⟨rfl,k⟩
 .refine lD (ua rfl) ?_
  rw[0,t,_,_,0,1,SqT.of ht,1,0,x,a.qI,dx,_,0,hx,T.yR,T.QP,C3,d,0,.inl (_,Vx text,.inr [o:hd],1,1),0];rw[qal hk hv];by_cases c:text>#[15]
  .rw[A6 c] at k;exact lD (ua c) k
  .rw[A4 c] at k;exact iU (ub c) k
 .refine iU () ?_
  let O:(iy vs).map (·.1)=(#[15]).map Sum.inr:=by rw[wC,hk]
  rw[0,x,a.qI,dx,_,0,hx,T.yR,T.QP,C3,d,o,0,hd,λA0 aa=>?_];refine IN (tl:= [u_ (-t)]) (λz=>VS z text) V.str hd O (by rw[uc];have:=hT.2.2;omega) aa (λz H1 R hz s1 r=>?_) (λz H1 R hz s1 r=>[0:r]) λH1 s1 h1=>?_
  .exact(0,1,0,t,_,_,0,1,SqT.of (s1 _ _ ht),1,z,text,1,1,0,r)
  .rw[_,A0,0,h1,λz hz=>?_,?_,λv H2 s2 ac=>k v H2 (s1.trans s2) ac]
   .have:=Am (hT.1.1.1 z (Ag.mp hz).1);omega
   .have:=U0 (λz=>VS z text) (#[15]);rw[uc] at this;have:=hT.2.2;omega
abbrev xw:D->Bool
 | .non=>v_|_=>Vt
abbrev Wn:D->D
 | .tup [_,d]=>d|d=>d
abbrev Ju (d:D):Prop:=d= .non\/isT d=v_
abbrev Gd (d:D):Prop:=iW d=v_/\dp d<=20
def AdU:∀z>(["kind","big","told","silent","long","name"]:oj Str),iW (flt z)=true:=by rw[12]
def Si (h:z>(["kind","big","told","silent","long","name"]:oj Str)):Gd (flt z):=⟨AdU z h,by show dp (-[-"fault",!z])<=20;simp[dp,dpL]⟩
def AdT {u:Str}{d:D}(O:Qt u=v_)(h:isT d=v_):Gd (-[!u,d]):=by
 let U:=Q3 h;let hd:=Jy h;rw[_,?_,?_]
 .simp![iW,goodL,O,U,Ux]
  rfl
 .simp![dp,dpL];omega
def CV {u w:Str}{d:D}(O:Qt u=v_)(U:Qt w=v_)(h:isT d=v_):Gd (-[!u,-[!w,d]]):=by
 let hg:=Q3 h;let hd:=Jy h;rw[_,?_,?_]
 .simp![iW,goodL,O,U,hg,Ux]
  rfl
 .simp![dp,dpL];omega
def Aaw {B:Str->D}{p:Int}(hr:jH n 300 r)(h:Tr B)(O:lE own r B p= .stop e):Gd e:=by
 unfold lE at O;erw[id hr,ks,hk,hp];erw[r,U,ps];by_cases c1:U>MKR
 .rw[A6 c1] at O;simp only at O;generalize made U B own ps=dm at O;let aa:(if isT dm=v_ then Out.go (iT B (b0 ps) dm) (p+1) else .stop (flt "big"))= .stop e->Gd e:=by
   intro hq;by_cases c:isT dm=v_
   .rw[A6 c,0] at hq
   .rw[A4 c,0] at hq;exact Si ()
  cases dm with
  |non=>rw[O,0];exact Si ()|_=>exact aa O
 rw[A4 c1] at O;by_cases c2:U>ASK
 .rw[A6 c2,0] at O;erw[WP _ hk c2,_,_,ek];simp only at ek;subst ek;erw[wY hp,z0,z1,rfl,h0,h1];let hT:=h z1 h1;show Gd (nV U (B z1));unfold nV;by_cases d1:U="names"
  .rw[A6 d1];by_cases d2:isStr (B z1)=v_
   .rw[A6 d2];exact CV () () hT
   .rw[A4 d2];exact Si ()
  .rw[A4 d1];by_cases d2:mO (B z1)=v_
   .rw[A6 d2];refine CV () ?_ hT
    split<;>rw[12]
   .rw[A4 d2];exact Si ()
 rw[A4 c2] at O;by_cases c3:U="say"
 .rw[A6 c3,0] at O;subst c3;let ek:=BM _ hk rfl;simp only at ek;subst ek;erw[Ae6 hp,z0,rfl,h0,<-AdT () (h z0 h0)]
 rw[A4 c3] at O;by_cases c4:U="fault"
 .rw[A6 c4,0] at O;exact Si ()
 rw[A4 c4] at O;by_cases c5:Sd U B ps=v_
 .rw[A6 c5,0] at O
 .rw[A4 c5,0] at O
abbrev mX (rs:oj Rw)(own:Str)(r:Rn)(a:D):Rn:=if xw a=v_ then(r.B,r.p,r.n+1,r.gs++ [-[Wn r.th,a]],flt "lack") else lC rs own (r.gs++ [-[Wn r.th,a]]) (300-(r.n+1)) (iT r.B (b0 (Q0 rs r.p).2) a) (r.p+1) (r.n+1)
structure Sx (rs:oj Rw)(r:Rn):Prop where
 tr:Tr r.B
 p1:1<=r.p
 p2:r.p<=↑rs+1
 n:r.n<=300
 gd:Gd r.th
 two:∃w e,r.th=-[!w,e]
 gs:nL r.gs=v_/\dpL r.gs<=30/\↑r.gs<=r.n
 ask:QH r.th=v_->r.p<=↑rs/\(Q0 rs r.p).1>ASK/\r.n<300/\∃(u:Str) (d:D),r.th= .tup [-"asks",-[!u,d]]/\u>(["thing","has","names"]:oj Str)/\isT d=v_
mutual
theorem ko:∀{d:D},iW d=v_->nD d=v_
 | .str _,_=>rfl| .tup xs,h=>by
  simp![iW,uB] at h;simp![nD];exact goodL_n h.2
 | .non,h=>by simp[iW] at h| .bl _,h=>by simp[iW] at h| .int _,h=>by simp[iW] at h| .lst,h=>by simp[iW] at h| .dct,h=>by simp[iW] at h
theorem goodL_n:∀{ds:oj D},goodL ds=v_->nL ds=v_
 | [],_=>rfl|d::ds,h=>by
  simp![goodL,uB] at h;simp![nL];rw[ko h.1,goodL_n h.2]
  rfl
end
def OX:∀{xs ys:oj D},nL xs=v_->nL ys=v_->nL (xs++ys)=v_
 | [],_,_,h=>h|x::xs,ys,h,h2=>by
  simp![nL,uB] at h;simp![UA,nL];rw[h.1,OX h.2 h2]
  rfl
def AbQ (n:Nat){xs ys:oj D}(h:dpL xs<=n)(h2:dpL ys<=n):dpL (xs++ys)<=n:=by
 rw[AJ] at h h2⊢;intro x O;rcases Ae.mp O with O|O
 .exact h x O
 .exact h2 x O
def MN {B:Str->D}{p:Int}(hr:jH n 300 r)(h:Tr B)(O:lE own r B p= .stop e)(U:QH e=v_):r.1>ASK/\∃(u:Str) (d:D),e= .tup [-"asks",-[!u,d]]/\u>(["thing","has","names"]:oj Str)/\isT d=true:=by
 unfold lE at O;erw[id hr,ks,hk,hp];erw[r,r1,ps];by_cases c1:r1>MKR
 .rw[A6 c1] at O;simp only at O;generalize made r1 B own ps=dm at O;let aa:(if isT dm=v_ then Out.go (iT B (b0 ps) dm) (p+1) else .stop (flt "big"))= .stop e->False:=by
   intro hq;by_cases c:isT dm=v_
   .rw[A6 c,0] at hq
   .rw[A4 c,0] at hq;exact A9 U ()
  cases dm with
  |non=>rw[O,0];exact A9 U ()|_=>exact(aa O).elim
 rw[A4 c1] at O;by_cases c2:r1>ASK
 .rw[A6 c2,0] at O;rw[_,c2];erw[WP _ hk c2,_,_,ek];simp only at ek;subst ek;erw[wY hp,z0,z1,rfl,h0,h1];let hT:=h z1 h1;let U:QH (nV r1 (B z1))=true:=U;show∃u d,nV r1 (B z1)=_/\_;unfold nV at U⊢;by_cases d1:r1="names"
  .rw[A6 d1] at U⊢;by_cases d2:isStr (B z1)=v_
   .rw[A6 d2];exact(_,0,(),hT)
   .rw[A4 d2] at U;exact A9 U ()
  .rw[A4 d1] at U⊢;by_cases d2:mO (B z1)=v_
   .rw[A6 d2];exact(_,0,by split<;>rw[12],hT)
   .rw[A4 d2] at U;exact A9 U ()
 rw[A4 c2] at O;by_cases c3:r1="say"
 .rw[A6 c3,0] at O;exact A9 U (by simp![QH];exact λh=>A9 (uq h) ())
 rw[A4 c3] at O;by_cases c4:r1="fault"
 .rw[A6 c4,0] at O;exact A9 U ()
 rw[A4 c4] at O;by_cases c5:Sd r1 B ps=v_
 .rw[A6 c5,0] at O
 .rw[A4 c5,0] at O
def Bm {rs:oj Rw}{own:Str}(hR:yg rs):∀(f:Nat) (B:Str->D) (p:Int) (n:Nat) (gs:oj D),f+n=300->Tr B->1<=p->p<=↑rs+1->nL gs=v_/\dpL gs<=30/\↑gs<=n->Sx rs (lC rs own gs f B p n)
 |0,B,p,n,gs,hf,hT,h1,h2,hg=>by
  let U:QH (if GT.gt p (↑rs) then flt "silent" else flt "long")=false:=by split<;>rw[12]
  refine(hT,h1,h2,by show n<=300;omega,?_,?_,hg,λh=>A9 (U.symm.trans h) ())
  .show Gd (if GT.gt p (↑rs) then flt "silent" else flt "long")
   split
   .exact Si ()
   .exact Si ()
  .show∃w e,(if GT.gt p (↑rs) then flt "silent" else flt "long")=_
   split
   .exact[_:0]
   .exact[_:0]
 |f+1,B,p,n,gs,hf,hT,h1,h2,hg=>by
  unfold lC;by_cases c:GT.gt p (↑rs)
  .rw[A6 c];exact(hT,h1,h2,by show n<=300;omega,Si (),[_:0],hg,λh=>A9 h (show¬QH (flt "silent")=v_ by rw[12]))
  .rw[A4 c];let O:=hR.ok _ (qan h1 ())
   let hok:=Bp (own:=own) O hT h1 ()
   cases hO:lE own (Q0 rs p) B p with
   |go B' p'=>
    rw[hO] at hok;exact Bm hR f B' p' (n+1) gs () hok.1 hok.2.1 hok.2.2 ⟨hg.1,hg.2.1,by have:=hg.2.2;omega⟩
   |stop e=>
    rw[hO] at hok;simp only;rw[_,hT,h1,h2,?_,Aaw O hT hO,hok,[hg.1:hg.2.1:?_],λU=>?_]
    .show(if QH e=v_ then n else n+1)<=300
     split<;>omega
    .show ↑gs<=(if QH e=v_ then n else n+1)
     have:=hg.2.2;split<;>omega
    .erw[MN O hT hO U,a1,u,d,a2,a3,a4];refine(by show p<=↑rs;omega,a1,?_,u,d,a2,a3,a4)
     show(if QH e=v_ then n else n+1)<300
     rw[A6 (show QH e=v_ from U)]
     omega
def L7 (hR:yg rs){r:Rn}{a:D}(h:Sx rs r)(hw:QH r.th=v_)(ha:Ju a):Sx rs (mX rs own r a):=by
 erw[h.ask hw,k1,k2,k3,u,d,e,k4,k5];let O:nD a=v_/\dp a<=12:=by
  rcases ha with rfl|ha
  .exact⟨1,by simp[dp]⟩
  .exact[ko (Q3 ha):Jy ha]
 let aa:=Jy k5;let U:nL (r.gs++ [D.tup [Wn r.th,a]])=v_/\dpL (r.gs++ [D.tup [Wn r.th,a]])<=30/\↑(r.gs++ [D.tup [Wn r.th,a]])<=r.n+1:=by
  rw[e];show nL (r.gs++ [-[-[!u,d],a]])=v_/\_;rw[_,OX h.gs.1 ?_,AbQ 30 h.gs.2.1 ?_,?_]
  .simp![nL,nD,ko (Q3 k5),O.1,Ux]
  .show dpL [-[-[!u,d],a]]<=30;simp![dpL,dp];have:=O.2;omega
  .rw[uE];have:=h.gs.2.2;show ↑r.gs+1<=r.n+1;omega
 unfold mX;cases hn:xw a with
 |true=>
  rw[A6 rfl];exact(h.tr,h.p1,h.p2,by show r.n+1<=300;omega,⟨(by rw[12]:iW (flt "lack")=v_),by show dp (-[-"fault",-"lack"])<=20;simp[dp,dpL]⟩,[_:0],U,λh=>A9 h (show¬QH (flt "lack")=v_ by rw[12]))
 |false=>
  rw[A4 uh];let hT:isT a=true:=by
   rcases ha with rfl|ha
   .rw[hn,0]
   .exact ha
  refine Bm hR _ _ _ _ _ () (qaC h.tr hT) (by have:=h.p1;omega) () U
def Ze {d:D}{u:V}(O:Is H d u)(U:d≠ .non):u≠ .non:=by
 rintro rfl;cases d with
 |non=>exact U rfl|bl b=>rw[show V.non= .bl b from O,0]|int i=>rw[show V.non= .int i from O,0]|str z=>erw[O,h,_];rw[h,0]|lst=>erw[O,_,_,h,_];rw[h,0]|dct=>erw[O,_,_,h,_];rw[h,0]|tup xs=>erw[O,_,_,h,_];rw[h,0]
def Aec (O:jH n 300 r)(hs:r.1>ASK):∃U z1,r.2= [.s U,.s z1]/\U>BX:=by
 erw[id O,ks,hk,hp];erw[WP _ hk hs,_,_,ek];simp only at ek;subst ek;erw[wY hp,x,y,e,hx,hy,<-(x,y,e,hx)]
abbrev NM:D->Bool
 | .tup xs=>xs.all mO|_=>Vt
abbrev DS (u:Str)(a:D):Bool:=if xw a=v_ then decide (u="thing") else if isT a=v_ then(if u="has" then(["yes","no"]:oj Str).any (λz=>eqD a (!z)) else decide (u="thing")||NM a) else Vt
def L8 {u:Str}{a:D}(h:DS u a=v_):Ju a:=by
 unfold DS at h;cases hn:xw a with
 |true=>
  cases a with
  |non=>exact .inl rfl|_=>rw[hn,0]
 |false=>
  rw[hn,A4 uh] at h;by_cases c:isT a=v_
  .exact .inr c
  .rw[A4 c,0] at h
inductive SZ:Sp
 |mk (v:V)(d:D)(_:vs= [v])(_:Is H d v)(_:isT d=v_)(_:∀H',ie H H'->Q (.bl (NM d)) H')
inductive MB:Sp
 |mk (v1 v2:V)(u:Str)(d a:D)(_:vs= [v1,v2])(_:Is H (-[!u,d]) v1)(_:Is H a v2)(_:∀H',ie H H'->Q (.bl (DS u a)) H')
inductive AcQ (C:Addr):Sp
 |mk (m:Mc)(r:Rn)(v:V)(u:Str)(d a:D)(_:vs= [-m.x,v])(_:yU C H m r)(_:Sx m.rs r)(_:r.th=-[-"asks",-[!u,d]])(_:Is H a v)(_:yg m.rs)(_:↑m.own<=100)(_:DS u a=v_)(_:∀H',Mv m H H'->yU C H' m (mX m.rs m.own r a)->Q .non H')
def AaY:#[T,2,a.jI,a.jB,["tree"],SZ]:=by
 let Q7:=#[Zf,T];refine T.lP.F.ok X3 () (λ_ _ _ _ H vs Q E hr h=>?_)
 erw[h,v,d,rfl,iv,hT,k];rw[3,%[|#[qp,#[pe_and,#[qw,#[Qb,2,rfl],T.qR,uW,#v[pv 0,#[Q6,.ty "tuple",T.QI,vx]]],#[kK,#[qw,#[wG,1,rfl],T.z_all,r9,#v[#[zW,["part"],[],Acn,#[KM,4,pv 0],(λ_ _ _ _ _ _=>#[qW,(0),(show VZ (["part"]:oj Str) by rw[12])]),(λ_ _ _ _ _ _=>#[qr,Q7,#[20],T.iV,qG,#v[pv 0]])]]]]]]]]
 rw[0,v,"tuple",tyD d,Zv d,1,iv.ty,XL _];cases d with
 |tup xs=>
  rw[0,lG ?_];erw[iv,a0,vs,rfl,O,U];let hl:↑xs<=1000:=by
   let hg:=Q3 hT;simp![iW,uB] at hg;have:=uq hg.1;omega
  rw[0,a0,vs,1,SqT.of O,λac A0 aa=>?_];refine BH (tl:= []) (λd=> .bl (mO d)) O U (yA hl) aa (λd0 x0 H3 R ad s3 i3 r=>?_) λH1 ys s1 l1 i1=>?_
  .exact(0,x0,d0,1,i3,λH4 s4=>r _ H4 s4 rfl)
  let ey:ys=(xs.map mO).map V.bl:=IsL.bls (by rwa[uR])
  rw[_,A0,xs.map mO,1,SqL.of (by rw[l1,ey])]
  have:(xs.map mO).all id=NM (¬xs):=by rw[US];rfl
  rw[this];exact k H1 s1
 |str z=>exact[0:iX (k H (ie.refl _))]|non=>exact[0:iX (k H (ie.refl _))]|int z=>exact[0:iX (k H (ie.refl _))]|bl z=>exact[0:iX (k H (ie.refl _))]|lst=>exact[0:iX (k H (ie.refl _))]|dct=>exact[0:iX (k H (ie.refl _))]
def Ni:#[T,3,a.Wv,a.wK,["ask","answer"],MB]:=by
 let yM:=#[jF,T];let Zp:=#[AaY,T];rw[9,T.nh,sL]
 erw[h,v1,v2,u,d,an,rfl,i1,U,k];rw[3,%[#[qK,#[qo,Yz,pv 1,qY],%[|#[qp,#[yQ,Qn,#[qL,Jz,pv 0,qj],qh,qx _]]],qu],#[qK,#[Qv,#[Qh,#[qr,yM,#[20],T.lm,qG,#v[pv 1]]]],%[|#[qp,jC]],qu],#[qK,#[qo,Qn,#[qL,Jz,pv 0,qj],qh],%[|#[qp,#[yQ,#[OS,1,hr.units],pv 1,#[qE,#v[qh,qh]],#[w]]]],qu]|#[qp,#[Afi,7,#[yQ,Qn,#[qL,Jz,pv 0,qj],qh,qx _],#[kK,#[qr,Zp,#[20],T.lP,qG,#v[pv 1]]]]]]]
 let two:(2:Nat)<=sizeLine:=by decide
 let es:∀y:Str,decide (V.str u=V.str y)=decide (u=y):=λy=>by
  rw[vc];exact⟨λh=>by injection h,λh=>by rw[h]⟩
 let iu:∀{H:Hp}{Q:VK},Is H (-[!u,d]) v1->Q (!u) H->AaB K v1 (.int 0) H Q:=λ{H Q} i q=>XC (i:=0) (d:= !u) i (Qk (j:=0) rfl) λx hx=>by
  erw[hx,rfl,_,<-q]
 rw[0,1,0];unfold DS at k;by_cases cn:an= .non
 .subst cn;rw[show v2= .non from U,0]
  refine QO () ?_
  rw[0,.inr (.inl (iu i1 [1:?_]))];rw[es];exact k H (ie.refl _)
 .let aa:v2≠ .non:=Ze U cn;let ac:xw an=false:=by
   cases an with
   |non=>exact A9 rfl cn|_=>rfl
  rw[ac,A4 uh] at k;refine Qx (ub aa) ?_
  rw[0,v2,an,1,U,λH1 s1=>[0:?_]];by_cases O:isT an=v_
  .rw[A6 O] at k;rw[O];refine iX ?_
   rw[0,.inr (.inl (iu (i1.mono s1.tk) [1:0:?_]))];rw[es];by_cases ch:u="has"
   .rw[A6 ch] at k;refine QO (ua ch) ?_
    rw[0,two,λt1 h1=>?_];let s2:=qf h1 (-[-"yes",-"no"])
    rw[_,an,t1,["yes","no"],(U.mono s1.tk).mono s2.tk,1,.inr (SqT.of qg),?_,?_,?_,k _ (s1.trans s2)]
    .intro z hz;simp![uH,vn,uU] at hz;rcases hz with rfl|rfl<;>rw[12]
    .let hg:=Q3 O;cases an with
     |non=>rfl|str z=>rfl|tup xs=>
      show puL xs=v_;simp![iW,uB] at hg;exact goodL_pu hg.2
     |_=>simp[iW] at hg
    .have:=Jy O;omega
   .rw[A4 ch] at k;refine Qx (ub ch) ?_
    rw[0,.inr (.inl (iu (i1.mono s1.tk) [1:?_]))]
    rw[0];rw[es];by_cases ct:u="thing"
    .rw[ua ct] at k⊢;refine lG ?_;exact k _ s1
    .rw[ub ct] at k⊢;refine iX ?_;exact(0,v2,an,1,U.mono s1.tk,O,λH2 s2=>k H2 (s1.trans s2))
  .rw[A4 O] at k;have:isT an=false:=by
    cases h:isT an with
    |true=>exact A9 h O|false=>rfl
   rw[this];exact lG (k _ s1)
def OU:#[C,6,a.Jg,a.Jh,["self","tree"],(AcQ a.qm)]:=by
 let Qu:=#[Bz,T];let O:=#[Ni,T];let YN:=#[Ik,T,C];rw[9,T.iE,jy]
 erw[h,m,[B,p,n,gs,th],v,u,d,an,rfl,M,hO,am,iv,hR,aQ,ao,k];rw[3,%[#[qK,#[Qv,#[Qh,#[QC,pv 0,T.qt,T.io,Qu]]],%[|xt],qu],#[qy,(2),jy.nd,#[qL,Jz,#[qQ,5,pv 0,rfl],qj]],#[qK,#[Qv,#[Qh,#[qr,O,#[20],T.nh,qG,#v[pv 2,pv 1]]]],%[|xt],qu],#[Qe,#[Jm,vh,U3,U4,jv,#[qQ,5,pv 0,rfl],#v[#[qE,#v[pv 2,pv 1]]]]],#[J7,10,pv 0,qj,Ay],#[qK,#[qo,Yz,pv 1,qY],%[#[Qj,#[qE,#v[qh,qh]]]|AaD],qu],#[jj,#[qQ,5,pv 0,rfl],#[qL,Jz,#[qL,Jz,#[qL,qJ,#[qQ,5,pv 0,rfl],#[qV,OQ,#[qQ,5,pv 0,rfl],qj]],qj],qj],pv 1],#[J7,10,pv 0,qj,Ay],#[Qj,qY]|#[Qe,#[QC,pv 0,T.qt,T.iZ,YN]]]]
 simp only at am;subst am;let two:(2:Nat)<=sizeLine:=by decide
 let hw:QH (-[-"asks",-[!u,d]])=true:=by simp[QH]
 erw[hO.ask hw,ag,ae,aR,_];let ah:=hO.p1;let ap:=hO.gs.2.2;let aq:=hO.tr;simp only at ag ae aR ah ap aq;let hM:=M;erw[hM,dx,fs,rv,ru,tv,gv,e,f,ir,ij,ib,hg,gl,it];simp only at f ib gl it;let aS:↑fs<1000:=by have:=f.len;omega
 rw[8,N1,q1]
 rw[0,m.x,dx,fs,1,e,f.meth _ (),m,0,M,.inr [_:0],0]
 refine Qx (by show(!(QH) (-[-"asks",-[!u,d]]))=Vt;rw[hw];rfl) ?_
 refine q1 _ _ ?_;rw[8,N2,q2]
 rw[0,m.x,_,dx,fs,0,e,T.qt,T.qP,f.there,.inr (.inl (XC (i:=1) it (Qk (j:=1) rfl) λq hq=>?_))];refine q2 _ _ ?_;rw[8,N3,q3]
 rw[0,0,q,v,u,d,an,1,hq,iv,λH1 s1=>[0:?_]];rw[ao];refine iX ?_;refine q3 _ _ ?_;rw[8,N4,q4];let ha:=L8 ao
 rw[0,m.x,_,dx,fs,0,s1 _ _ e,T.qt,T.Y0,f.given,.inl [1:_:SqL.of (s1 _ _ hg)],0,0,two,λt1 h1=>?_];let s2:=qf h1 (-[q,v]);let ip:Is (upd H1 t1 (-[q,v])) (-[-[!u,d],an]) (-t1):=Is.new (ds:= [-[!u,d],an]) (_,0,hq.mono s1.tk,_,0,iv.mono s1.tk,1) h1;let S2:=s1.trans s2;generalize upd H1 t1 (-[q,v])=H2 at s2 ip S2⊢;let bo:↑gv=↑gs:=↑gl;let au:=S2 _ _ hg
 rw[_,m.dg,gv,0,1,au,zE ()]
 let t3:Tk H2 (upd H2 m.dg (.lst (gv++ [-t1]))):=Tk.updL au;let aU:m.x≠m.dg:=λz=>by rw[<-z,e,0] at hg
 let aw:m.db≠m.dg:=λz=>by
  erw[ib,ff,e2,_];rw[z,hg,0] at e2
 let e3:(upd H2 m.dg (.lst (gv++ [-t1]))) m.x=u_ (.ins a.qm dx fs):=by rw[qk aU];exact S2 _ _ e
 let T3:Tk H (upd H2 m.dg (.lst (gv++ [-t1]))):=S2.tk.trans t3;let ax:=(ib.same S2).move t3 (qk aw);let ay:L2.IsL (upd H2 m.dg (.lst (gv++ [-t1]))) (gs++ [-[-[!u,d],an]]) (gv++ [-t1]):=(gl.mono T3).append (IsL.one (ip.mono t3));let aA:(upd H2 m.dg (.lst (gv++ [-t1]))) m.dg=u_ (.lst (gv++ [-t1])):=qg;let aB:Mv m H (upd H2 m.dg (.lst (gv++ [-t1]))):=⟨λb o h _ _ n3=>by rw[qk n3];exact S2 b o h,T3⟩
 generalize upd H2 m.dg (.lst (gv++ [-t1]))=H3 at t3 e3 T3 ax ay aA aB⊢;refine q4 _ _ ?_;rw[8,N5,q5]
 rw[0,m.x,_,dx,fs,0,e3,T.qt,T.yi,f.done,(n:Int),(1),1,1,dx,fs,e3,aS];erw[yo (r:=(B,p,n+1,gs++ [-[-[!u,d],an]],-[-"asks",-[!u,d]])) e3 (f.set_done (k:=n+1)) (ir.mono T3) (ij.mono T3) ax aA ay (it.mono T3),M4,aC];let ac:=aB.trans aC;let aD:=iv.mono ac.tk;refine q5 _ _ ?_;show nP _ _ _ _ (upd H3 m.x (.ins a.qm dx (iH "done" (.int ((n+1:Nat):Int)) fs)));generalize upd H3 m.x (.ins a.qm dx (iH "done" (.int ((n+1:Nat):Int)) fs))=H4 at M4 aC ac aD⊢;erw[M4,aa,U,bp,bq,bu,bv,e4,f4,ak,aE,ad,aF,al,aG];simp only at f4 ad al aG;let af:↑U<1000:=by have:=f4.len;omega
 rw[8,N6,q6]
 rw[0,1,0];by_cases cn:an= .non
 .subst cn;rw[show v= .non from iv,0]
  refine QO () ?_
  rw[_,two,λl hl=>?_];let s5:=qf hl (-[-"fault",-"lack"])
  rw[0,m.x,_,aa,U,1,s5 _ _ e4,T.qt,T.qP,af];erw[yo (r:=(B,p,n+1,gs++ [-[-[!u,d],.non]],flt "lack")) (s5 _ _ e4) (f4.set_there (u:=-l)) (ak.mono s5.tk) (aE.mono s5.tk) (ad.same s5) (s5 _ _ aF) (al.mono s5.tk) (Is.new (ds:= [-"fault",-"lack"]) (_,0,[1:yA ()],_,0,[1:yA ()],1) hl),m1,m2]
  exact k _ (ac.trans ((Mv.of s5).trans m2)) m1
 .let hT:isT an=true:=ha.resolve_left cn;let aV:v≠ .non:=Ze iv cn;let aW:xw an=false:=by
   cases an with
   |non=>exact A9 rfl cn|_=>rfl
  refine Qx (ub aV) ?_;refine q6 _ _ ?_;rw[8,N7,q7];erw[Aec (hR.ok _ (qan ah ag)) ae,z0,z1,aH,aX];let aY:b0 (Q0 m.rs p).2=z0:=by rw[aH];rfl
  erw[ad.put aX aD,kvs,aI,aZ,t5];let a1:atI (m.rs.map rowD) (p-1)=u_ (rowD (Q0 m.rs p)):=by
   rw[show p-1=((p.toNat-1:Nat):Int) by omega]
   exact Qk (by rw[uG,EA ah ag];rfl)
  let a3:m.db≠m.x:=YF.ne e4 ad;let a4:m.dg≠m.db:=aw.symm
  rw[0,0,m.x,_,aa,U,0,e4,T.qt,T.Qz,f4.boxes,0,m.x,_,aa,U,0,e4,T.qt,T.Yj,f4.rows,0,m.x,_,aa,U,0,e4,T.qt,T.Qo,f4.place,_,0,1];refine XC (d:=rowD (Q0 m.rs p)) ak a1 λq5 a5=>?_;refine .inr (.inl (XC (i:=1) a5 (Qk (j:=1) rfl) λq6 aJ=>?_));rw[aH] at aJ;refine .inr (.inl (XC (i:=0) (d:= !z0) aJ (Qk (j:=0) rfl) λq7 a6=>?_));erw[a6,rfl,_]
  rw[_,m.db,0,aI];let e5:(upd H4 m.db (.dK kvs)) m.x=u_ (.ins a.qm aa U):=by rwa[qk a3.symm]
  refine q7 _ _ ?_;rw[8,N8,q8]
  rw[0,m.x,_,aa,U,0,e5,T.qt,T.Qo,f4.place,p,(1),1,1,aa,U,e5,af];obtain⟨M6,a7⟩:=yo (r:=(iT B z0 an,p+1,n+1,gs++ [-[-[!u,d],an]],-[-"asks",-[!u,d]])) e5 (f4.set_place (q:=p+1)) (ak.mono t5) (aE.mono t5) aZ (by rwa[qk a4]) (al.mono t5) (aG.mono t5)
  let aK:=ac.trans (Mv.trans ⟨λb o h _ a2 _=>by rwa[qk a2],t5⟩ a7)
  erw[M6,a8,aL,bw,bx,bA,bB,e6,f6,a9,ba,aM,bb,aN,bc];simp only at f6 aM aN bc;let aO:↑aL<1000:=by have:=f6.len;omega
  refine q8 _ _ ?_;rw[8,N9,q9]
  rw[0,m.x,_,a8,aL,1,e6,T.qt,T.qP,aO];erw[yo (r:=(iT B z0 an,p+1,n+1,gs++ [-[-[!u,d],an]],.non)) e6 (f6.set_there (u:= .non)) a9 ba aM bb aN rfl,M7,bd];let aP:=aK.trans bd;erw[id M7,bf,bg,bC,bD,bE,bF,e7,f7,r7];refine q9 _ _ ?_
  rw[5]
  refine(0,m.x,bf,bg,1,e7,f7.meth _ (),m,0,M7,1,qaC aq hT,aQ,hR,by show 1<=p+1;omega,by show p+1<=_;omega,by show n+1<=300;omega,λH8 bh M8=>k H8 (aP.trans bh) ?_)
  unfold mX;rw[aW,A4 uh];simp only;rw[aY];exact M8
abbrev mM (H:Hp)(p:o3):Prop:=∃x:Int,H p=u_ (.lst [.int x])/\0<=x
def mM.same (h:mM H p)(s:ie H H'):mM H' p:=by
 erw[h,x,e,r,<-[x:s _ _ e:r]]
def mM.free {l:o3}(h:mM H p)(n:H l=U_):p≠l:=by
 erw[h,x,e,r,<-qi e n]
def mM.tk (h:mM H p)(h':mM H' p)(k:ll p H H'):Tk H H':=by
 erw[h,x,e,_];erw[h',U,O,_,<-k.tk e O]
inductive SW:Sp
 |mk (p:Addr)(many:Int)(_:vs= [-p,.int many])(_:mM H p)(_:0<many)(_:many<1073741824)(_:∀(d:Int)(H':Hp),0<=d->d<many->mM H' p->ll p H H'->Q (.int d) H')
inductive S3:Sp
 |mk (c t:Int)(_:vs= [.int c,.int t])(_:0<=t)(_:t<1000)(_:∀(p:Addr)(H':Hp),H p=U_->ie H H'->mM H' p->Q (-p) H')
def jP:#[T,1,a.Kl,a.Kt,["pot","many"],SW]:=by
 rw[9,T.ig,WW]
 erw[h,p,many,rfl,[x,O,hx],hm,U,k];rw[3,%[#[qy,(2),WW.nd,#[qV,Y5,#[qL,yu,pv 0,qj],pv 1]],#[EJ,6,#[qV,Bx,#[qL,yu,pv 0,qj],pv 1],#[Adg,7,pv 0,qj,ML,_],_,_,_]|#[qp,pv 2]]]
 rw[0,p,_,_,0,1,SqL.of O,1,0,_,0,1,hm]
 rw[0,p,_,_,0,1,SqL.of O,1,0,_,0,1,[hm:U],0,p,_,_,0,1,O,1]
 rw[0];refine k _ _ (Ud _ ()) (U5 _ hm) [x/many:qg:Int.ediv_nonneg hx ()] (ll.upd _ _ _)
def Ic:#[T,1,a.f_law_pot,a.d_law_pot,["cell","salt"],S3]:=by
 rw[9,T.mY,YG]
 erw[h,c,t,rfl,h0,h1,k];rw[3,%[#[qK,#[qo,Afk,#[qw,Db,T.z_abs,boot_abs,#v[pv 0]],#[qV,OR,qj,qj]],%[|#[qp,#[QN,#v[#[qw,Db,T.z_abs,boot_abs,#v[pv 0]]]]]],qu],#[qy,(2),YG.nd,#[qV,Y5,#[qV,wr,#[qV,yy,#[qV,yy,#[qV,Y5,pv 0,qj],#[qV,wr,qj,pv 1]],qj],qj],qj]],#[qy,(3),YG.nd,qj],#[YH,#[YJ,#v[qj]],#[qW,(4),YG.nd],%[#[qy,(2),YG.nd,#[qV,Y5,#[qV,yy,#[qV,yy,#[qV,wr,pv 2,pv 2],#[qV,wr,qj,pv 4]],qj],qj]]|#[qy,(3),YG.nd,#[qV,yy,#[qV,wr,pv 3,qj],pv 2]]]]|#[qp,#[QN,#v[pv 3]]]]]
 rw[0,0,_,0,1,[():():()],_,0,1,0]
 refine lz (λ_=>?_) (λ_=>?_)
 .rw[0,0,(sml rfl),λp O=>?_];refine k p _ O (qf O _) [_:qg:?_];split<;>omega
 .rw[0,_,0,1,(by show(0:Int)<2147483647;decide),0,_,0,1,(.inl [():()]),_,0,1,_,0,1,_,0,1,(.inr [():()]),_,0,1,(by show(0:Int)<2147483647;decide),(9),1,(),()]
  refine_lift let J1_:Nat->L2.St->Hp->Prop:=λi σ H'=>E3 λ(x:Int) (b:Int) (kv:om V)=>A5 (σ= [u_ (.int c),u_ (.int t),u_ (.int x),u_ (.int b),kv]) (0<=x) (x<2147483647) (0<=b) (H'=H);?_
  refine W1 (n:=9) J1_ (_,_,U_,1,Ud _ (),U5 _ (),(),1) ?_ ?_
  .rintro i σ H' hi ⟨x,b,kv,rfl,aa,ac,hb,rfl⟩;let U:AeM x x:= .inl [():()]
   rw[0,0,_,0,1,U,0,_,0,1,(.inl [():()]),_,0,1,_,0,1,_,0,1,(by show(0:Int)<2147483629;decide),0,_,0,1,(.inr [():()]),0,_,0,1]
   let q0:0<=(x*x+40692*(0+(i:Int))+3)%2147483629:=Ud _ ()
   let q1:(x*x+40692*(0+(i:Int))+3)%2147483629<2147483629:=U5 _ ()
   exact(_,_,0,q0,Int.lt_trans q1 (),Int.add_nonneg (Int.mul_nonneg hb ()) q0,1)
  .rintro σ H' ⟨x,b,kv,rfl,aa,ac,hb,rfl⟩;exact[0:(sml rfl):λp O=>k p _ O (qf O _) [_:qg:hb]]
abbrev Nm4 (zs:oj Str):Prop:=1<=↑zs/\↑zs<=60/\∀z>zs,nm z=v_/\↑z<=4
abbrev Wd (n:Nat)(z:Str):Prop:=Jo z=v_/\↑z<=n
def ll.of (s:ie H H'):ll p H H':=λb o e _=>s b o e
def mM.ne_strs {l:o3}(h:mM H p)(e:H l=u_ (.lst (zs.map V.str))):l≠p:=λz=>by
 erw[h,x,e2,_];rw[<-z,e] at e2;cases zs with
 |nil=>rw[e2,0]|cons a r=>simp at e2
inductive ST:Sp
 |mk (p L:Addr)(zs:List Str)(_:vs= [-p,-L])(_:mM H p)(_:H L=u_ (.lst (zs.map V.str)))(_:Nm4 zs)(_:∀(z:Str)(H':Hp),Wd 4 z->mM H' p->ll p H H'->Q (!z) H')
inductive Aab:Sp
 |mk (p L:Addr)(zs:List Str)(many k:Nat)(_:vs= [-p,-L,.int (many:Int),.int (k:Int)])(_:mM H p)(_:H L=u_ (.lst (zs.map V.str)))(_:Nm4 zs)(_:1<=many)(_:many<=12)(_:k<=12)(_:∀(z:Str)(H':Hp),Wd 20 z->mM H' p->ll p H H'->Q (!z) H')
abbrev FIV:oj Str:= ["","x","b1 g","yes","c/d"]
def AdY:∀z>FIV,Wd 4 z:=by
 have:∀z>FIV,Jo z=v_/\↑z<=4:=by rw[12]
 exact this
def CC (h:nm z=v_):Jo z=true:=BC (Iy h)
def AeQ (h:Nm4 zs):∀z>zs++FIV,Wd 4 z:=λz hz=>by
 rcases Ae.mp hz with h1|h1
 .exact[CC (h.2.2 z h1).1:(h.2.2 z h1).2]
 .exact AdY z h1
def Wd.cat {m k:Nat}{y:Str}(h:Wd n x)(h':Wd m y)(e:n+m<=k):Wd k (x++y):=⟨Iq h.1 h'.1,by rw[BW];have:=h.2;have:=h'.2;omega⟩
def IV:∀{l:oj Str},(∀z>l,Jo z=v_)->Wd ((l.map (·.length)).sum+↑l) (VF " " l)
 | [],_=>[1:uN _]| [z],h=>⟨h z (by simp),by show ↑z<=_;simp⟩|z::y::r,h=>by
  let O:=IV (l:=y::r) λx U=>h x (ui _ U);let hz:=h z (by simp)
  let e:=L2.Jt z y r;rw[_,?_,?_]
  .show(VF " " (z::y::r)).cps.toList.all QD=v_;rw[e,Vh,vK,show z.cps.toList.all QD=v_ from hz,show(VF " " (y::r)).cps.toList.all QD=v_ from O.1]
   decide
  .rw[qaK,e,uE,uw,<-qaK,<-qaK];let h1:=O.2;simp![ur,V0,uw] at h1⊢;omega
abbrev WL:oj Str:= ["ask","ask","ask","has","names","text","text","copy","put","put","join","first","first","rest","size","cut","glue","like","none","rowed","go","say","fault","self"]
nonrec abbrev WTX:Str:="ask ask ask has names text text copy put put join first first rest size cut glue like none rowed"
def Acr:spl ((WTX++(" go say fault self":Str)).length+1) (WTX++(" go say fault self":Str))=WL:=by rw[12]
def AeP:∀z>WL,Wd 5 z:=by
 have:∀z>WL,Jo z=v_/\↑z<=5:=by rw[12]
 exact this
def Aei:∀c>("abcdh":Str).cps.toList,QD c=true:=by rw[12]
def Sv {d:Int}(h0:0<=d)(h1:d<5):∃c,atI ("abcdh":Str).cps.toList d=u_ c/\Wd 1 ⟨#[c]⟩:=by
 obtain⟨c,O⟩:=YD (xs:=("abcdh":Str).cps.toList) h0 (by show d<5;exact h1)
 rw[_,c,O,?_,Vv _];show [c].all QD=v_;rw[vK,Aei c (jY O)]
 rfl
def AdC:∀k:Nat,k<13->Jo (VH (k:Int):Str)=v_/\↑(VH (k:Int):Str)<=2:=by rw[12]
def By:#[T,2,a.kQ,a.Kh,["pot","names"],ST]:=by
 let qU:=#[jP,T];rw[9,T.iq,wZ]
 erw[h,p,L,zs,rfl,hP,hL,U,k];let hs:=uF;let ac:=U.1;let ad:=U.2.1;rw[3,%[#[qy,(2),wZ.nd,#[qV,ZC,pv 1,#[QN,#v[qh,qh,qh,qh,qh]]]]|#[qp,#[qL,yu,pv 2,#[qr,qU,#[20],T.ig,qG,#v[pv 0,#[qw,qN,T.yt,uK,#v[pv 2]]]]]]]]
 rw[0,(sml rfl),λq hq=>?_];let s1:ie H (upd H q (.lst [-"",-"x",-"b1 g",-"yes",-"c/d"])):=qf hq _
 rw[_,L,q,_,0,1,s1 _ _ hL,qg,(by rw[uc];show _+5<=Vw;omega),λl hl=>?_]
 let s2:=s1.trans (qf hl (.lst (zs.map V.str++ [-"",-"x",-"b1 g",-"yes",-"c/d"])));let O:(upd (upd H q (.lst [-"",-"x",-"b1 g",-"yes",-"c/d"])) l (.lst (zs.map V.str++ [-"",-"x",-"b1 g",-"yes",-"c/d"]))) l=u_ (.lst ((zs++FIV).map V.str)):=by rw[qg,uA];rfl
 generalize upd (upd H q (.lst [-"",-"x",-"b1 g",-"yes",-"c/d"])) l (.lst (zs.map V.str++ [-"",-"x",-"b1 g",-"yes",-"c/d"]))=H2 at s2 O⊢;let P2:=hP.same s2;let l5:↑((zs++FIV).map V.str)=↑zs+5:=by rw[uc,uE];rfl
 rw[5]
 refine(0,0,0,l,0,.inl (SqL.of O),p,0,P2,by rw[l5];omega,by rw[l5];omega,λd H' d0 d1 P3 K3=>?_)
 let aa:=K3 _ _ O (P2.ne_strs O);erw[YD (xs:=(zs++FIV).map V.str) d0 d1,v,hv];erw[Af.mp (jY hv),z,hz,rfl,<-(l,_,d,0,1,SqL.of aa,hv,k z H' (AeQ U z hz) P3 ((ll.of s2).trans K3))]
def Af4 {c:Nat}:∀{l:oj Str},(∀z>l,↑z<=c)->(l.map (·.length)).sum<=↑l*c
 | [],_=>by simp|z::r,h=>by
  have:=Af4 λy O=>h y (ui _ O);have:=h z uj;simp![ur,V0,uw,PK,RO];omega
def NI {K:o0}(hl:↑l<=3)(hz:Wd 5 z)(h:∀z>l,Wd 2 z)(k:∀y H',Wd 20 y->ie H H'->Q (!y) H'):↑((z::l).map V.str)<=Vw/\∀p,H p=U_->Ac7 K (-" ") [-p] (upd H p (.lst ((z::l).map V.str))) Q:=by
 let hs:=uF;let h1:=Af4 (c:=2) λz hz=>(h z hz).2;let h2:=hz.2;refine⟨by rw[uc,uw];omega,λp U=>(" ",p,z::l,1,1,SqL.of qg,?_,?_)⟩
 .let e:(" ":Str).length=1:=rfl;rw[e];simp![ur,V0,uw];omega
 .have:=IV (l:=z::l) λy O=>by
   rcases Ab.mp O with rfl|O
   .exact hz.1
   .exact(h y O).1
  refine k _ _ [this.1:?_] (qf U _);let h3:=this.2;simp![ur,V0,uw] at h3;omega
def Aa7:#[T,3,a.kG,a.Kg,["pot","names","many","k"],Aab]:=by
 let qU:=#[jP,T];let Q1:=#[By,T];rw[9,T.nz,yn]
 erw[h,p,L,zs,many,i,rfl,hP,hL,hN,aA,aB,hi,k];rw[3,%[#[qy,(4),yn.nd,qh],#[qy,(5),yn.nd,#[qL,yu,#[Jm,uZ,UF,UG,CD,#[qV,Ql,pv 4,qh],#v[qh]],#[qr,qU,#[20],T.ig,qG,#v[pv 0,qj]]]],#[EJ,6,#[zW,["j","pot"],[0],Mf (ql xo) ["pot","names","many","k","words","word","one","two","three","at"],#[YJ,#v[qj]],(λ_ _ _ _ _ _=>#[qW,(0),(show VZ (["j","pot"]:oj Str) by rw[12])]),(λ_ _ _ _ _ _=>#[qL,CQ,qh,#[qr,qU,#[20],T.ig,qG,#v[pv 1,qj]]])],#[AaJ,6,rfl,YE #[qW,(6),yn.nd] (YE #[qW,(7),yn.nd] (YE #[qW,(8),yn.nd] qak)),_,_],_,_,_],#[qy,(9),yn.nd,#[qX,Yo,T.zB,V2,#v[#[qw,#[LV,1,rfl],T.z_min,boot_min,#v[pv 2,#[qV,yy,#[qV,yy,pv 3,qj],#[qr,qU,#[20],T.ig,qG,#v[pv 0,pv 2]]]]]]]],#[qK,#[qo,Qn,pv 5,qh],%[|#[qp,#[qV,Ql,#[qV,Ql,#[qV,Ql,qh,pv 6],qh],#[qr,Q1,#[20],T.iq,qG,#v[pv 0,pv 1]]]]],qu],#[qK,#[qo,8,ya,pv 5,#[QN,#v[qh,qh]],#[w]],%[|#[qp,#[qV,Ql,#[qV,Ql,pv 5,qh],pv 6]]],qu],#[qK,#[qo,Qn,pv 5,qh],%[|#[qp,pv 5]],qu],#[qK,#[qo,Qn,pv 5,qh],%[|#[qp,#[qV,Ql,qh,pv 9]]],qu],#[qK,#[qo,8,ya,pv 5,#[QN,#v[qh,qh]],#[w]],%[|#[qp,#[Jm,uZ,Ul,Um,qad,qh,#v[#[QN,#v[pv 5,pv 6,pv 9]]]]]],qu],#[qK,#[qo,Qn,pv 5,qh],%[|#[qp,#[Jm,uZ,Ul,Um,qad,qh,#v[#[QN,#v[pv 5,pv 6,pv 7,pv 9]]]]]],qu],#[qK,#[qo,8,ya,pv 5,#[QN,#v[qh,qh]],#[w]],%[|#[qp,#[Jm,uZ,Ul,Um,qad,qh,#v[#[QN,#v[pv 5,pv 6,pv 7,pv 8]]]]]],qu]|#[qp,#[Jm,uZ,Ul,Um,qad,qh,#v[#[QN,#v[pv 5,pv 6,pv 7]]]]]]]
 rw[0,_,0,1,(),1,0,1,(),λq hq=>?_]
 rw[show spl _ _=WL from Acr]
 let s1:ie H (upd H q (.lst (WL.map V.str))):=qf hq _;let eq:(upd H q (.lst (WL.map V.str))) q=u_ (.lst (WL.map V.str)):=qg;generalize upd H q (.lst (WL.map V.str))=H1 at s1 eq⊢;let P1:=hP.same s1
 rw[0,p,(24),1,P1,(),(),λd H2 d0 d1 P2 K2=>?_]
 obtain⟨v,hv⟩:=YD (xs:=WL.map V.str) d0 (by show d<24;exact d1)
 erw[Af.mp (jY hv),z,hz,rfl]
 rw[_,q,_,d,0,1,SqL.of (K2 _ _ eq (P1.ne_strs eq)),hv];let aa:=AeP z hz;let ak:ll p H H2:=(ll.of s1).trans K2;clear K2 hv hz eq P1 s1 hq
 rw[_,(3),1,(),(),λD hD=>?_]
 refine xr (lo:=0) (tl:= [u_ (-p)]) (λi ys H'=>∃bs:oj Str,ys=bs.map V.str/\↑bs=i/\(∀b>bs,Wd 1 b)/\mM H' p/\(∀b o,H2 b=u_ o->b≠p->H' b=u_ o)) (yA ()) ([],1,1,λb hb=>by simp at hb,P2.same (qf hD _),λb o e _=>qf hD _ _ _ e) ?_ ?_
 .rintro j ys H' hj ⟨bs,rfl,ac,U,P',K'⟩ ad O R hR
  rw[0,p,(5),1,P',(),(),λd3 H4 e0 e1 P4 K4=>?_]
  erw[Sv e0 e1,c,hc,ao]
  rw[_,"abcdh",d3,c,1,1,(),hc]
  let nD:D≠p:=(P2.free hD).symm;refine hR _ H4 (K4 _ _ ad nD) (bs++ [⟨#[c]⟩],by rw[uA];rfl,by rw[uE,ac];rfl,λb hb=>?_,?_,λb o e np=>?_)
  .rcases Ae.mp hb with h|h
   .exact U b h
   .rw[vv] at h;subst h;exact ao
  .erw[P4,x,e2,h2,<-⟨x,by rwa[qk nD.symm],h2⟩]
  .rw[qk (qi e hD)];exact K4 _ _ (K' b o e np) np
 .rintro ys H' ⟨bs,rfl,ac,U,P',K'⟩ ad;obtain⟨x1,x2,x3,rfl⟩:∃x1 x2 x3,bs= [x1,x2,x3]:=by
   match bs,ac with
   | [x1,x2,x3],_=>exact(x1,x2,x3,1)
  let h1:Wd 2 x1:=⟨(U x1 (by simp)).1,by have:=(U x1 (by simp)).2;omega⟩
  let h2:Wd 2 x2:=⟨(U x2 (by simp)).1,by have:=(U x2 (by simp)).2;omega⟩
  let h3:Wd 2 x3:=⟨(U x3 (by simp)).1,by have:=(U x3 (by simp)).2;omega⟩
  let KD:ll p H H':=λb o e np=>K' b o (ak b o e np) np
  rw[_,D,0,SqL.of ad,1,_,0,_,0,_,0,1];clear K' ak P2 U ac ad
  rw[0,0,_,0,1,0,0,p,many,1,P',(),(),λd5 H5 f0 f1 P5 K5=>(_,0,1,_,0,?_)]
  obtain⟨j,ej,ap,aq⟩:∃j:Int,j=(if(i:Int)+5+d5<(many:Int) then(i:Int)+5+d5 else(many:Int))/\1<=j/\j<=12:=⟨0,by split<;>omega,by split<;>omega⟩
  rw[<-ej];obtain⟨jn,rfl⟩:∃n:Nat,j=(n:Int):=[j.toNat:()]
  let al:=AdC jn ()
  let h4:Wd 2 (VH ((jn:Nat):Int):Str):=al;let af:((jn:Nat):Int).natAbs.log2<1920:=by have:=Vc ((jn:Nat):Int).natAbs;omega
  rw[0,af];let ag:ll p H H5:=KD.trans K5;let au:=ag _ _ hL (hP.ne_strs hL);let fin:∀(y:Str) (H':Hp),Wd 20 y->ie H5 H'->Q (!y) H':=λy H' O s'=>k y H' O (P5.same s') (ag.trans (ll.of s'));let two:(2:Nat)<=sizeLine:=by decide
  let bl:Wd 1 " ":=[():Vv _]
  let fz:∀{n m:Nat}{x y:Str},Wd n x->Wd m y->n+m<=100->↑x+↑y<=sizeLine:=λhx O h=>nj (by have:=hx.2;have:=O.2;omega)
  let tx:Wd 5 "text ":=[():Vv _]
  let go:Wd 3 "go ":=[():Vv _]
  clear al ap aq af ej
  rw[0,1,0,lz (λ_=>?_) (λ_=>?_)]
  .let w1:=tx.cat h1 (k:=7) ()
   let w2:=w1.cat bl (k:=8) ()
   rw[0,_,0,1,fz tx h1 (),_,0,1,fz w1 bl (),0,0,p,L,zs,1,P5,au,hN,λy H6 O P6 K6=>?_]
   exact(_,0,1,fz w2 O (),k _ H6 (w2.cat O ()) P6 (ag.trans K6))
  rw[0,two,λl1 aw=>(l1,0,.inl (SqL.of qg),1,1,0,?_)];let ae:=qf aw (.lst ([-"self",-"say"]:oj V));refine lz (λ_=>?_) (λ_=>?_)
  .let w1:=aa.cat bl (k:=6) ()
   exact(0,_,0,1,fz aa bl (),0,_,0,1,fz w1 h1 (),fin _ _ (w1.cat h1 ()) ae)
  rw[0,1,0,lz (λ_=>?_) (λ_=>?_)]
  .exact⟨0,fin _ _ ⟨aa.1,by have:=aa.2;omega⟩ ae⟩
  rw[0,1,0,lz (λ_=>?_) (λ_=>?_)]
  .exact(0,_,0,1,fz go h4 (),fin _ _ (go.cat h4 ()) ae)
  rw[0,two,λl2 ax=>(l2,0,.inl (SqL.of qg),1,1,0,?_)];let ah:=ae.trans (qf ax (.lst ([-"none",-"rowed"]:oj V)));refine lz (λ_=>?_) (λ_=>?_)
  .rw[1,0,0,0];exact NI (l:= [x1,VH ((jn:Nat):Int)]) (by simp) aa (λy O=>by simp at O;rcases O with rfl|rfl<;>assumption) λy H' O s'=>fin y H' O (ah.trans s')
  rw[0,1,0,lz (λ_=>?_) (λ_=>?_)]
  .rw[1,0,0,0,0];exact NI (l:= [x1,x2,VH ((jn:Nat):Int)]) (by simp) aa (λy O=>by simp at O;rcases O with rfl|rfl|rfl<;>assumption) λy H' O s'=>fin y H' O (ah.trans s')
  rw[0,two,λl3 ay=>(l3,0,.inl (SqL.of qg),1,1,0,?_)];let am:=ah.trans (qf ay (.lst ([-"cut",-"glue"]:oj V)));refine lz (λ_=>?_) (λ_=>?_)
  .rw[1,0,0,0,0];exact NI (l:= [x1,x2,x3]) (by simp) aa (λy O=>by simp at O;rcases O with rfl|rfl|rfl<;>assumption) λy H' O s'=>fin y H' O (am.trans s')
  .rw[1,0,0,0];exact NI (l:= [x1,x2]) (by simp) aa (λy O=>by simp at O;rcases O with rfl|rfl<;>assumption) λy H' O s'=>fin y H' O (am.trans s')
abbrev Ab5 (d:D):Prop:=isT d=v_/\lw d=v_/\sz d<=300
inductive Ef:Sp
 |mk (p L:Addr)(zs:List Str)(_:vs= [-p,-L])(_:mM H p)(_:H L=u_ (.lst (zs.map V.str)))(_:Nm4 zs)(_:∀(v:V)(d:D)(H':Hp),Ab5 d->Is H' d v->mM H' p->ll p H H'->Q v H')
def IsL.ofStrz {H:Hp}:∀{l:oj Str},(∀z>l,↑z<=1000)->L2.IsL H (l.map D.str) (l.map V.str)
 | [],_=>rfl|z::r,h=>(_,0,[1:yA (h z uj)],IsL.ofStrz λy O=>h y (ui _ O))
def Cb {n:Nat}:∀{l:oj Str},(∀z>l,↑z<=n)->szL (l.map D.str)<=↑l*(n+1)
 | [],_=>by simp[szL]|z::r,h=>by
  have:=Cb (n:=n) λy O=>h y (ui (a:=y) z O);have:=h z uj;simp![ur,szL,sz,uw,PK,RO];omega
def IG:∀{l:oj Str},(∀z>l,Jo z=v_)->lwL (l.map D.str)=v_
 | [],_=>rfl|z::r,h=>by
  rw[ur,lwL,IG λy O=>h y (ui _ O),Ux];exact h z uj
def LF:∀l:oj Str,dpL (l.map D.str)<=1
 | []=>by simp[dpL]|z::r=>by have:=LF r;simp![ur,dpL,dp];omega
def AA:∀{l:oj Str},(∀z>l,Wd 300 z)->goodL (l.map D.str)=v_
 | [],_=>rfl|z::r,h=>by
  rw[ur,goodL,AA λy O=>h y (ui _ O),Ux];show Qt z=v_;unfold Qt;have:=h z uj;rw[ua this.2];exact this.1
def Acu (h:Wd 20 z):Ab5 (!z):=⟨Lb h.1 (by have:=h.2;omega),h.1,by simp![sz];have:=h.2;omega⟩
def sr (O:↑l<=14)(h:∀z>l,Wd 20 z):Ab5 (.tup (l.map D.str)):=by
 let h1:=Cb λz hz=>(h z hz).2;let h2:=LF l;let h3:=AA λz hz=>(⟨(h z hz).1,by have:=(h z hz).2;omega⟩:Wd 300 z)
 let e:sz (.tup (l.map D.str))<=300:=by simp![sz];omega
 rw[_,?_,by simpa only [lw] using IG λz hz=>(h z hz).1,e]
 let e2:dp (.tup (l.map D.str))<=12:=by simp![dp];omega
 unfold isT;rw[ua (show sz (.tup (l.map D.str))<=600 by omega),ua e2]
 simp![iW];rw[h3,uc,ua (show ↑l<=40 by omega)]
 rfl
def Wc {t:o3}(h:∀z>l,Wd 20 z)(O:H t=U_):Is (upd H t (.tup (l.map V.str))) (.tup (l.map D.str)) (-t):=
 Is.new (IsL.ofStrz λz hz=>by have:=(h z hz).2;omega) O
abbrev MKL (z:Str):oj Str:= ["row h","text b "++z,"ask c b","text a text d ","join a c","put h a","text a ask e d","put h a","text a say e","put h a","say h"]
def OZ (h:Wd 4 z):∀y>MKL z,Wd 20 y:=by
 let O:∀y>(["row h","ask c b","text a text d ","join a c","put h a","text a ask e d","put h a","text a say e","put h a","say h"]:oj Str),Jo y=v_/\↑y<=20:=by rw[12]
 intro y U;rcases Ab.mp U with rfl|U
 .exact O _ (by simp)
 .rcases Ab.mp U with rfl|U
  .exact Wd.cat (n:=7) (m:=4) [():Vv _] h ()
  .exact O y (ui _ U)
def Nd:#[T,2,a.Wu,a.Wp,["pot","names"],Ef]:=by
 let qU:=#[jP,T];rw[9,T.m9,jd]
 erw[h,p,L,zs,rfl,hP,hL,hN,k];let ac:=hN.1;let ad:=hN.2.1;rw[3,%[#[qy,(2),jd.nd,#[qL,yu,pv 1,#[qr,qU,#[20],T.ig,qG,#v[pv 0,#[qw,qN,T.yt,uK,#v[pv 1]]]]]],#[qy,(3),jd.nd,#[QN,#v[qh,#[qV,Ql,qh,pv 2],qh,qh,qh,qh]]],#[qy,(3),jd.nd,#[qV,ZC,pv 3,#[QN,#v[qh,qh,qh,qh,qh]]]]|#[qp,#[qX,Qd,T.QI,vx,#v[pv 3]]]]]
 let aa:=hP.ne_strs hL
 rw[5]
 refine(0,0,0,L,0,.inl (SqL.of hL),p,0,hP,by rw[uc];omega,by rw[uc];omega,λd1 H1 a0 a1 P1 K1=>?_)
 erw[YD (xs:=zs.map V.str) a0 a1,v,hv];erw[Af.mp (jY hv),z,hz,rfl];let O:Wd 4 z:=[CC (hN.2.2 z hz).1:(hN.2.2 z hz).2]
 rw[_,L,_,_,0,1,SqL.of (K1 _ _ hL aa),hv];let e7:("text b ":Str).length=7:=by rw[12]
 rw[0,_,0,1,nj (by have:=O.2;omega),(sml rfl),λU h1=>?_]
 let q1:=qf h1 (.lst (((MKL z).take 6).map V.str));let e1:(upd H1 U (.lst (((MKL z).take 6).map V.str))) U=u_ (.lst (((MKL z).take 6).map V.str)):=qg;show nP _ _ _ _ (upd H1 U (.lst (((MKL z).take 6).map V.str)));generalize upd H1 U (.lst (((MKL z).take 6).map V.str))=H2 at q1 e1⊢
 rw[0,(sml rfl),λl2 h2=>?_];let q2:=qf h2 (.lst (((MKL z).drop 6).map V.str))
 rw[_,U,l2,_,0,1,q2 _ _ e1,qg,nj (by show 6+5<=16000000;decide),λl3 h3=>?_]
 let q3:=q2.trans (qf h3 (.lst ((MKL z).map V.str)))
 rw[0,l3,(MKL z).map V.str,1,.inl [SqL.of qg:λt ht=>?_]];let q4:=qf ht (.tup ((MKL z).map V.str));exact k _ _ _ (sr (by show 11<=14;decide) (OZ O)) (Wc (OZ O) ht) ((P1.same q1).same (q3.trans q4)) (K1.trans (ll.of (q1.trans (q3.trans q4))))
def E9:#[T,4,a.Kn,a.kY,["pot","names"],Ef]:=by
 let qU:=#[jP,T];let Q1:=#[By,T];let O:=#[Aa7,T];rw[9,T.mK,jQ]
 erw[h,p,L,zs,rfl,hP,hL,hN,k];rw[3,%[#[qy,(2),jQ.nd,#[qV,yy,qj,#[qr,qU,#[20],T.ig,qG,#v[pv 0,qj]]]],#[qy,2,(3),4,jQ.nd,rfl,GL rfl,#[qV,yy,pv 2,qj],_,_],#[qy,(4),jQ.nd,#[QN,#v[#[qV,Ql,qh,#[qr,Q1,#[20],T.iq,qG,#v[pv 0,pv 1]]],#[qV,Ql,qh,#[qr,Q1,#[20],T.iq,qG,#v[pv 0,pv 1]]],qh]]],#[Qe,#[Jm,vh,PySem.F.slot_list_extend,PySem.F.type_list_extend,An,pv 4,#v[#[zW,["k","pot","names","many"],[0,1,3],Mf (ql xj) ["pot","names","body","many","lines"],#[YJ,#v[pv 2]],(λ_ _ _ _ _ _=>#[qW,(0),(show VZ (["k","pot","names","many"]:oj Str) by rw[12])]),(λ_ _ _ _ _ _=>#[qr,O,#[20],T.nz,qG,#v[pv 1,pv 2,pv 3,pv 0]])]]]]|#[qp,#[qX,Qd,T.QI,vx,#v[#[qV,ZC,pv 4,#[QN,#v[#[qV,Ql,qh,#[qL,CQ,qh,#[qr,qU,#[20],T.ig,qG,#v[pv 0,qj]]]]]]]]]]]]
 rw[0,p,(8),1,hP,(),(),λd1 H1 a0 a1 P1 K1=>(_,0,1,?_)]
 obtain⟨nb,ak,aH,aI⟩:∃nb:Nat,1+d1=(nb:Int)/\1<=nb/\nb<=8:=((1+d1).toNat,(),(),())
 let ac:=K1 _ _ hL (hP.ne_strs hL)
 try dsimp only
 rw[ak];clear ak a0 a1
 rw[0,_,0,1];let ta:Wd 7 "text a ":=[():Vv _]
 let tb:Wd 7 "text b ":=[():Vv _]
 let fz:∀{n m:Nat}{x y:Str},Wd n x->Wd m y->n+m<=100->↑x+↑y<=sizeLine:=λhx U h=>nj (by have:=hx.2;have:=U.2;omega)
 rw[0,0,p,L,zs,1,P1,ac,hN,λz1 H5 al P5 K5=>(_,0,1,fz ta al (),?_)]
 let ad:=K5 _ _ ac (P1.ne_strs ac)
 rw[0,0,p,L,zs,1,P5,ad,hN,λz2 H6 am P6 K6=>(_,0,1,fz tb am (),(sml rfl),λl hl=>?_)]
 let aw:=K6 _ _ ad (P5.ne_strs ad);let ao:ll p H H6:=(K1.trans K5).trans K6;let s7:=qf hl (.lst (["text a "++z1,"text b "++z2,"row h"].map V.str));let e7:(upd H6 l (.lst (["text a "++z1,"text b "++z2,"row h"].map V.str))) l=u_ (.lst (["text a "++z1,"text b "++z2,"row h"].map V.str)):=qg;let P7:=P6.same s7;let ae:=s7 _ _ aw;let K7:ll p H (upd H6 l (.lst (["text a "++z1,"text b "++z2,"row h"].map V.str))):=ao.trans (ll.of s7);let aa:∀y>(["text a "++z1,"text b "++z2,"row h"]:oj Str),Wd 20 y:=λy U=>by
  simp![uH,uI,uU] at U;rcases U with rfl|rfl|rfl
  .exact ta.cat al ()
  .exact tb.cat am ()
  .exact[():()]
 show nP _ _ _ _ (upd H6 l (.lst (["text a "++z1,"text b "++z2,"row h"].map V.str)));generalize upd H6 l (.lst (["text a "++z1,"text b "++z2,"row h"].map V.str))=H7 at e7 P7 ae K7⊢;let ax:(["text a "++z1,"text b "++z2,"row h"]:oj Str).length=3:=rfl;generalize (["text a "++z1,"text b "++z2,"row h"]:oj Str)=th at e7 aa ax⊢
 rw[0,.inl [1:_:SqL.of e7]]
 rw[0,nb,1,(),(),λD hD=>?_]
 let nD:D≠p:=(P7.free hD).symm;let nl:l≠p:=P7.ne_strs e7;refine xr (lo:=0) (n:=nb) (tl:= [u_ (-p),u_ (-L),u_ (.int ((nb:Int)+4))]) (λi ys H'=>∃rs:oj Str,ys=rs.map V.str/\↑rs=i/\(∀r>rs,Wd 20 r)/\mM H' p/\(∀b o,H7 b=u_ o->b≠p->H' b=u_ o)) (yA ()) ([],1,1,λb hb=>by simp at hb,P7.same (qf hD _),λb o e _=>qf hD _ _ _ e) ?_ ?_
 .rintro j ys H' hj ⟨rs,rfl,ap,af,P',K'⟩ ag U R hR;let ay:=K' _ _ ae (P7.ne_strs ae)
  rw[0,0,0,0,p,L,zs,nb+4,j,?_,P',ay,hN,(),(),(),λr H8 aA P8 K8=>?_]
  .rw[show(0:Int)+(j:Int)=(j:Int) by omega,show((nb+4:Nat):Int)=(nb:Int)+4 by omega]
   rfl
  .refine hR _ H8 (K8 _ _ ag nD) (rs++ [r],by rw[uA];rfl,by rw[uE,ap];rfl,λb hb=>?_,?_,λb o e np=>?_)
   .rcases Ae.mp hb with h|h
    .exact af b h
    .rw[vv] at h;subst h;exact aA
   .erw[P8,x,e2,h2,<-⟨x,by rwa[qk nD.symm],h2⟩]
   .rw[qk (qi e hD)];exact K8 _ _ (K' b o e np) np
 .rintro ys H' ⟨rs,rfl,ap,af,P',K'⟩ ag;let e8:=K' _ _ e7 nl
  rw[_,l,D,_,0,1,e8,ag,nj (by rw[uc,uc];omega)]
  let e9:(upd H' l (.lst (th.map V.str++rs.map V.str))) l=u_ (.lst ((th++rs).map V.str)):=by rw[qg,uA]
  let P9:mM (upd H' l (.lst (th.map V.str++rs.map V.str))) p:=by
   erw[P',x,e2,h2,<-⟨x,by rwa[qk nl.symm],h2⟩]
  let K9:ll p H (upd H' l (.lst (th.map V.str++rs.map V.str))):=λb o e np=>by
   rw[qk (qi (ao b o e np) hl)];exact K' b o (K7 b o e np) np
  generalize upd H' l (.lst (th.map V.str++rs.map V.str))=H9 at e9 P9 K9⊢
  rw[0,0,p,(5),1,P9,(),(),λd9 aJ g0 g1 aB aq=>?_]
  erw[Sv g0 g1,c9,hc,aC];let aD:=aq _ _ e9 nl
  rw[_,"abcdh",d9,c9,1,1,(),hc,_,0,1,(by show("say ":Str).length+1<=Vw;rw[12]),(sml rfl),λq1 aE=>?_]
  let au:=qf aE (.lst [.str ("say "++⟨#[c9]⟩)]);let hw:Wd 20 ("say "++⟨#[c9]⟩:Str):=Wd.cat (n:=4) (m:=1) [():Vv _] aC ()
  rw[_,l,q1,_,0,1,au _ _ aD,qg,nj (by rw[uc,uE];show _+1<=_;omega),λq2 aF=>?_]
  let aG:=au.trans (qf aF (.lst ((th++rs).map V.str++ [.str ("say "++⟨#[c9]⟩)])))
  rw[_,q2,0,.inl [SqL.of qg:λt ht=>?_]];let ah:=aG.trans (qf ht (.tup ((th++rs).map V.str++ [.str ("say "++⟨#[c9]⟩)])));let all:∀y>th++rs++ [("say "++⟨#[c9]⟩:Str)],Wd 20 y:=λy U=>by
   rcases Ae.mp U with U|U
   .rcases Ae.mp U with U|U
    .exact aa y U
    .exact af y U
   .rw[Ac.mp U,0];exact hw
  let em:(th++rs).map V.str++ [.str ("say "++⟨#[c9]⟩)]=(th++rs++ [("say "++⟨#[c9]⟩:Str)]).map V.str:=by rw[uA (l₁:=th++rs)];rfl
  rw[em] at ah ht⊢;refine k _ _ _ (sr (l:=th++rs++ [("say "++⟨#[c9]⟩:Str)]) (by simp![uE,Uh];omega) all) (Wc all ht) (aB.same ah) ((K9.trans aq).trans (ll.of ah))
def Mp {y:Str}(hz:Wd 20 z)(O:Wd 20 y):Ab5 (-[-[!z,-[]],!y]):=by
 let h1:=hz.2;let h2:=O.2;let U:Qt z=true:=by unfold Qt;rw[ua (show ↑z<=300 by omega)];exact hz.1
 let g2:Qt y=true:=by unfold Qt;rw[ua (show ↑y<=300 by omega)];exact O.1
 let e:sz (-[-[!z,-[]],!y])<=300:=by simp![sz,szL];omega
 rw[_,?_,by simp[lw,lwL,hz.1,O.1],e]
 unfold isT;rw[ua (show sz (-[-[!z,-[]],!y])<=600 by omega),ua (show dp (-[-[!z,-[]],!y])<=12 by simp![dp,dpL];omega)]
 simp[iW,goodL,U,g2]
inductive SX:Sp
 |mk (p L:Addr)(zs:List Str)(_:vs= [-p,-L])(_:mM H p)(_:H L=u_ (.lst (zs.map V.str)))(_:Nm4 zs)(_:∀(v:V)(d:D)(H':Hp),Zw d->Is H' d v->mM H' p->ll p H H'->Q v H')
def Acv {k:Str}{d:D}(O:k="leaf"\/k="rule")(h:Ab5 d):Zw (-[!k,d]):=wq O h.1 h.2.1 h.2.2
def Ec {k:Str}{d:D}(O:k="leaf"\/k="rule")(h:Ab5 d)(hv:Is H d v)(q:∀t H',ie H H'->Is H' (-[!k,d]) (-t)->Zw (-[!k,d])->Q (-t) H'): [V.str k,v].length<=Vw/\∀t,H t=U_->Q (-t) (upd H t (-[!k,v])):=by
 rw[_,sml rfl,λt U=>q t _ (qf U _) (Is.new (ds:= [!k,d]) (_,0,[1:?_],_,0,hv,1) U) (Acv O h)];rcases O with rfl|rfl<;>rw[12]
def Aa8:#[T,5,a.Kv,a.kD,["pot","names"],Ef]:=by
 let qU:=#[jP,T];let Q1:=#[By,T];let Zu:=#[E9,T];rw[9,T.mL,WY]
 erw[h,p,L,zs,rfl,hP,hL,hN,k];let aa:∀{z:Str},Wd 4 z->Wd 20 z:=λh=>⟨h.1,by have:=h.2;omega⟩
 rw[3,%[#[qy,(2),WY.nd,#[qr,qU,#[20],T.ig,qG,#v[pv 0,qj]]],#[qK,#[qo,Dy,pv 2,qj],%[|#[qp,#[qr,Q1,#[20],T.iq,qG,#v[pv 0,pv 1]]]],qu],#[qK,#[qo,Qn,pv 2,qj],%[|#[qp,#[qX,Qd,T.QI,vx,#v[#[zW,["k","pot","names"],[0,1],Mf (ql xl) ["pot","names","kind"],#[YJ,#v[#[qr,qU,#[20],T.ig,qG,#v[pv 0,qj]]]],(λ_ _ _ _ _ _=>#[qW,(0),(show VZ (["k","pot","names"]:oj Str) by rw[12])]),(λ_ _ _ _ _ _=>#[qr,Q1,#[20],T.iq,qG,#v[pv 1,pv 2]])]]]]],qu],#[qK,#[qo,Qn,pv 2,qj],%[|#[qp,#[qE,#v[#[qE,#v[#[qr,Q1,#[20],T.iq,qG,#v[pv 0,pv 1]],#[qE,qd]]],#[qr,Q1,#[20],T.iq,qG,#v[pv 0,pv 1]]]]]],qu],#[qK,#[qo,Qn,pv 2,qj],%[|#[qp,#[qr,Zu,#[20],T.mK,qG,#v[pv 0,pv 1]]]],qu]|#[qp,#[qE,#v[#[qV,Ql,qh,#[qr,Q1,#[20],T.iq,qG,#v[pv 0,pv 1]]],qh,qh]]]]]
 rw[0,p,(6),1,hP,(),(),λd1 H1 a0 a1 P1 K1=>?_]
 let O:=K1 _ _ hL (hP.ne_strs hL)
 rw[0,_,0,1,0,lz (λ_=>?_) (λ_=>?_)]
 .exact(0,0,p,L,zs,1,P1,O,hN,λz H2 hz U K2=>k _ _ H2 (Acu (aa hz)) ⟨1,nj (by have:=hz.2;omega)⟩ U (K1.trans K2))
 rw[0,1,0,lz (λ_=>?_) (λ_=>?_)]
 .rw[0,p,(4),1,P1,(),(),λd2 H2 b0 b1 U K2=>?_]
  let ac:=K2 _ _ O (P1.ne_strs O);obtain⟨n,rfl,hn⟩:∃n:Nat,d2=(n:Int)/\n<4:=[d2.toNat:():()]
  rw[_,n,1,(),(),λD hD=>?_]
  let nD:D≠p:=(U.free hD).symm;refine xr (lo:=0) (n:=n) (tl:= [u_ (-p),u_ (-L)]) (λi ys H'=>∃rs:oj Str,ys=rs.map V.str/\↑rs=i/\(∀r>rs,Wd 20 r)/\mM H' p/\(∀b o,H2 b=u_ o->b≠p->H' b=u_ o)) (yA ()) ([],1,1,λb hb=>by simp at hb,U.same (qf hD _),λb o e _=>qf hD _ _ _ e) ?_ ?_
  .rintro j ys H' hj ⟨rs,rfl,af,ad,P',K'⟩ ae hy R hR;let ao:=K' _ _ ac (U.ne_strs ac)
   rw[0,0,p,L,zs,1,P',ao,hN,λr H8 ap P8 K8=>?_];refine hR _ H8 (K8 _ _ ae nD) (rs++ [r],by rw[uA];rfl,by rw[uE,af];rfl,λb hb=>?_,?_,λb o e np=>?_)
   .rcases Ae.mp hb with h|h
    .exact ad b h
    .rw[vv] at h;subst h;exact aa ap
   .erw[P8,x,e2,h2,<-⟨x,by rwa[qk nD.symm],h2⟩]
   .rw[qk (qi e hD)];exact K8 _ _ (K' b o e np) np
  .rintro ys H' ⟨rs,rfl,af,ad,P',K'⟩ ae
   rw[_,D,0,.inl [SqL.of ae:λt ht=>?_]];let s3:=qf ht (.tup (rs.map V.str));exact k _ _ _ (sr () ad) (Wc ad ht) (P'.same s3) (λb o e np=>s3 _ _ (K' b o ((K1.trans K2) b o e np) np))
 rw[0,1,0,lz (λ_=>?_) (λ_=>?_)]
 .rw[0,0,p,L,zs,1,P1,O,hN,λz1 H2 ag U K2=>[uN _:λt0 ah=>[sml rfl:λt1 ak=>?_]]];let ac:=K2 _ _ O (P1.ne_strs O);let s0:=qf ah (.tup ([]:oj V));let s1:=s0.trans (qf ak (-[!z1,-t0]));let i0:Is (upd H2 t0 (-[])) (-[]) (-t0):=Is.new (ds:= []) rfl ah;let i1:Is (upd (upd H2 t0 (-[])) t1 (-[!z1,-t0])) (-[!z1,-[]]) (-t1):=Is.new (ds:= [!z1,-[]]) (_,0,⟨1,nj (by have:=ag.2;omega)⟩,_,0,i0,1) ak
  generalize upd (upd H2 t0 (-[])) t1 (-[!z1,-t0])=H3 at s1 i1⊢;let P3:=U.same s1
  rw[0,0,p,L,zs,1,P3,s1 _ _ ac,hN,λz2 H4 al P4 K4=>[sml rfl:λt2 am=>?_]];let s2:=qf am (-[-t1,!z2]);refine k _ _ _ (Mp (aa ag) (aa al)) (Is.new (ds:= [-[!z1,-[]],!z2]) (_,0,i1.mono (P3.tk P4 K4),_,0,⟨1,nj (by have:=al.2;omega)⟩,1) am) (P4.same s2) ((((K1.trans K2).trans (ll.of s1)).trans K4).trans (ll.of s2))
 rw[0,1,0,lz (λ_=>?_) (λ_=>?_)]
 .exact(0,0,p,L,zs,1,P1,O,hN,λv d H2 hd hv U K2=>k v d H2 hd hv U (K1.trans K2))
 .let ta:Wd 7 "text a ":=[():Vv _]
  rw[0,0,p,L,zs,1,P1,O,hN,λz H2 hz U K2=>(_,0,1,nj (by have:=hz.2;have:=ta.2;omega),sml rfl,λt ht=>?_)]
  let all:∀y>(["text a "++z,"ask b a","say b"]:oj Str),Wd 20 y:=λy hy=>by
   simp![uH,uI,uU] at hy;rcases hy with rfl|rfl|rfl
   .exact ta.cat hz ()
   .exact[():()]
   .exact[():()]
  let s2:=qf ht (.tup ((["text a "++z,"ask b a","say b"]:oj Str).map V.str));exact k _ _ _ (sr (by show 3<=14;decide) all) (Wc all ht) (U.same s2) ((K1.trans K2).trans (ll.of s2))
def AaU:#[T,6,a.ZE,a.Z7,["pot","names"],SX]:=by
 let qU:=#[jP,T];let kT:=#[Aa8,T];let Zu:=#[E9,T];let O:=#[Nd,T];rw[9,T.mR,XY]
 erw[h,p,L,zs,rfl,hP,hL,hN,k];let ae:=hN.1;let af:=hN.2.1;rw[3,%[#[qy,(2),XY.nd,#[qr,qU,#[20],T.ig,qG,#v[pv 0,qj]]],#[qK,#[qo,Dy,pv 2,qj],%[|#[qp,#[qE,#v[qh,#[qr,kT,#[20],T.mL,qG,#v[pv 0,pv 1]]]]]],qu],#[qK,#[qo,Dy,pv 2,qj],%[|#[qp,#[qE,#v[qh,#[qr,Zu,#[20],T.mK,qG,#v[pv 0,pv 1]]]]]],qu],#[qK,#[qo,Qn,pv 2,qj],%[|#[qp,#[qE,#v[qh,#[qr,O,#[20],T.m9,qG,#v[pv 0,pv 1]]]]]],qu],@qK _ _ _ _ _ _ _ _ #[zq,#[qo,Qn,pv 2,qj],#[J0,#[qo,Qn,#[qr,qU,#[20],T.ig,qG,#v[pv 0,qj]],qj]]].pt %[|#[qp,#[qE,#v[qh,#[qr,kT,#[20],T.mL,qG,#v[pv 0,pv 1]]]]]] qu|#[qp,#[qE,#v[qh,#[qL,yu,pv 1,#[qr,qU,#[20],T.ig,qG,#v[pv 0,#[qw,qN,T.yt,uK,#v[pv 1]]]]]]]]]]
 rw[0,p,(10),1,hP,(),(),λd1 H1 a0 a1 P1 K1=>?_]
 let aa:=K1 _ _ hL (hP.ne_strs hL);let fin:∀{H3 H2:Hp}{kk:Str}{d:D}{v:V},mM H3 p->ll p H H3->kk="leaf"\/kk="rule"->Ab5 d->Is H2 d v->mM H2 p->ll p H3 H2-> [V.str kk,v].length<=Vw/\∀t,H2 t=U_->Q (-t) (upd H2 t (-[!kk,v])):=λ{H3 H2 kk d v} P3 K3 hk hd U P2 K2=>
  Ec hk hd U λt H4 s4 i4 o4=>k _ _ H4 o4 i4 (P2.same s4) ((K3.trans K2).trans (ll.of s4))
 rw[0,_,0,1,0,lz (λ_=>?_) (λ_=>?_)]
 .exact(0,0,p,L,zs,1,P1,aa,hN,λv d H2 hd U P2 K2=>fin P1 K1 (.inl rfl) hd U P2 K2)
 rw[0,_,0,1,0,lz (λ_=>?_) (λ_=>?_)]
 .exact(0,0,p,L,zs,1,P1,aa,hN,λv d H2 hd U P2 K2=>fin P1 K1 (.inr rfl) hd U P2 K2)
 rw[0,1,0,lz (λ_=>?_) (λ_=>?_)]
 .exact(0,0,p,L,zs,1,P1,aa,hN,λv d H2 hd U P2 K2=>fin P1 K1 (.inr rfl) hd U P2 K2)
 show nP _ _ _ _ H1;refine qF λN0 n0=>n0 _ _ ?_;rw[8,BB,bb];let made:∀{H3:Hp},mM H3 p->ll p H H3->BB [u_ (V.ref p),u_ (V.ref L),u_ (V.int d1)] H3:=by
  intro H3 P3 K3;refine bb _ _ ?_;let ac:=K3 _ _ hL (hP.ne_strs hL)
  rw[5]
  refine(0,0,0,L,0,.inl (SqL.of ac),p,0,P3,by rw[uc];omega,by rw[uc];omega,λd2 H4 b0 b1 P4 K4=>?_)
  erw[YD (xs:=zs.map V.str) b0 b1,v,U];erw[Af.mp (jY U),z,hz,rfl]
  rw[_,L,_,_,0,1,SqL.of (K4 _ _ ac (P3.ne_strs ac)),U,sml rfl,λt ht=>?_];let s4:=qf ht (-[-"made",!z]);let ad:=hN.2.2 z hz;exact k _ _ _ (Mt ad.1) (Is.new (ds:= [-"made",!z]) (_,0,[1:()],_,0,[1:nj ()],1) ht) (P4.same s4) ((K3.trans K4).trans (ll.of s4))
 rw[0,1,0,lz (λ_=>?_) (λ_=>?_)]
 .rw[0,p,(4),1,P1,(),(),λd2 H2 b0 b1 P2 K2=>[1:0:lz (λ_=>?_) (λ_=>?_)]]
  .exact(0,0,p,L,zs,1,P2,K2 _ _ aa (P1.ne_strs aa),hN,λv d H3 hd U P3 K3=>fin P2 (K1.trans K2) (.inr rfl) hd U P3 K3)
  .exact made P2 (K1.trans K2)
 .exact iX (made P1 K1)
def SqL.keepK {K:o0}{a:o3}(e:∀o,H a=u_ o->H' a=u_ o)(h:SqL K H a xs):SqL K H' a xs:=by
 rcases h with(h|⟨o,h⟩)|h
 .exact .inl (.inl (e _ h))
 .exact .inl (.inr [o:e _ h])
 .exact .inr h
abbrev N8:oj Str:= ["a","b1","c/d","e.f","g","h9","k","m/n"]
def AdF:∀z>N8,nm z=v_/\↑z<=4:=by rw[12]
def Afo:N8.Nodup:=by rw[12]
def Ob {vs:oj V}:l6 vs U_ (u_ (n:Int))=vs.take n:=by
 unfold l6;rw[HT.sIx_none,HT.sIx_nat,Ts,RL];rcases Fg n ↑vs with h|h
 .rw[RB h]
 .rw[Nat.min_eq_right h,vj (Vv _),vj h]
def Lf {ns:oj Int}:∀{ys:oj V},(∀y>ys,y>ns.map V.int)->∃O:oj Int,ys=O.map V.int
 | [],_=>[[]:1]|y::r,h=>by
  erw[Af.mp (h y uj),i,_,e];obtain⟨O,e2⟩:=Lf (ys:=r) λz hz=>h z (ui _ hz);exact⟨i::O,by rw[e2,<-e];rfl⟩
def Dl {K:o0}(h:SqL K H q xs)(s:ie H H'):SqL K H' q xs:=SqL.keepK (λo e=>s _ _ e) h
abbrev Ox (i:Int):Str:=VH i
abbrev nK (k:Nat):Str:="n"++Ox (8+(k:Int))
def AdD:∀k:Nat,k<52->nm (nK k)=v_/\↑(nK k)<=4:=by rw[12]
def Afn:(N8++(VN 52).map nK).Nodup:=by rw[12]
abbrev ZZ:oj Str:= ["zz"]
def AeN:nm "zz"=v_/\("zz":Str).length<=4:=by rw[12]
abbrev A60:oj Str:=N8++(VN 52).map nK
abbrev NmU (zs:oj Str):Prop:=Nm4 zs/\zs.Nodup/\∀z>zs,z>A60
def IC (h1:1<=n)(h2:n<=8):NmU (N8.take n):=by
 let e:↑(N8.take n)=n:=by rw[U6];show min n 8=n;omega
 exact[[():():λz hz=>AdF z (V7 hz)]:pd (RY _ _) Afo:λz hz=>vL _ (V7 hz)]
variable {j:Nat}
def AdE (h:j<=52):NmU (N8++(VN j).map nK):=by
 refine⟨⟨by rw[uE];show 1<=8+_;omega,by rw[uE,uc,rg];show 8+j<=60;omega,λz hz=>?_⟩,pd (RZ (f_ _) (rX _ (List.range_sublist.mpr h))) Afn,λz hz=>(RZ (f_ N8) (rX nK (List.range_sublist.mpr h))).mem hz⟩
 rcases Ae.mp hz with h1|h1
 .exact AdF z h1
 .erw[Af.mp h1,k,O,rfl,<-AdD k (by have:=List.mem_range.mp O;omega)]
inductive Es (K:PySem.W.Frag):Sp
 |mk (q:Addr)(ns:List Int)(_:vs= [-q])(_:SqL K H q (ns.map V.int))(_:∀(L:Addr)(zs:List Str)(H':Hp),ie H H'->H' L=u_ (.lst (zs.map V.str))->NmU zs->Q (-L) H')
inductive Aaa:Sp
 |mk (p L:Addr)(zs:List Str)(j:Int)(_:vs= [-p,-L,.int j])(_:0<=j)(_:j<=1000)(_:mM H p)(_:H L=u_ (.lst (zs.map V.str)))(_:Nm4 zs)(_:∀(v:V)(d:D)(H':Hp),Zw d->Is H' d v->mM H' p->ll p H H'->Q v H')
inductive S9 (K:PySem.W.Frag):Sp
 |mk (q:Addr)(ns:List Int)(_:vs= [-q])(_:SqL K H q (ns.map V.int))(_:∀(L:Addr)(ps:List (Str×D))(us:List V)(H':Hp),ie H H'->H' L=u_ (.lst us)->L2.IsL H' (ps.map prD) us->Aem ps->(∀p>ps,↑p.1<=4/\p.1>A60)->↑ps<=60->Q (-L) H')
inductive ME (K:PySem.W.Frag):Sp
 |mk (q:Addr)(ns:List Int)(st:Int)(n:Nat)(_:vs= [-q,.int st,.int (n:Int)])(_:SqL K H q (ns.map V.int))(_:0<=st)(_:st<1000)(_:n<=100)(_:∀(L:Addr)(zs:List Str)(H':Hp),ie H H'->H' L=u_ (.lst (zs.map V.str))->(∀z>zs,nm z=v_/\↑z<=4)->↑zs=n->Q (-L) H')
def Ip:#[T,2,a.Jx,a.xf,["script"],(Es K)]:=by
 let yL:=#[Im,T];rw[9,T.iY,Yx]
 erw[h,q,ns,rfl,hq,k];let hs:=uF;rw[3,%[#[qy,(1),Yx.nd,#[qr,yL,#[20],T.iK,qG,#v[pv 0,qj]]],#[qy,(2),Yx.nd,#[QN,#v[qh,qh,qh,qh,qh,qh,qh,qh]]],#[qK,#[qo,Qn,#[qV,Y5,#[qV,Bx,pv 1,qj],qj],qj],%[|#[qp,#[qV,ZC,pv 2,#[zW,["k"],[],Acn,#[sY,7,_,T.jX,#v[qj,#[qV,yy,qj,#[qV,Y5,#[qV,Bx,pv 1,qj],qj]]],_,_],(λ_ _ _ _ _ _=>#[qW,(0),(show VZ (["k"]:oj Str) by rw[12])]),(λ_ _ _ _ _ _=>#[qV,Ql,qh,#[qX,Yo,T.zB,V2,#v[pv 0]]])]]]],qu]|#[qp,#[Y7,zS,pv 2,J2,#[jZ,#[qV,yy,qj,#[qV,Y5,pv 1,qj]]]]]]]
 rw[8,N1,q1]
 rw[0,q,ns,(0),1,(),hq,λc=>q1 _ _ ?_]
 rw[8,N2,q2]
 rw[_,sml rfl,λl0 U=>q2 _ _ ?_];let s0:=qf U (.lst (N8.map V.str));let e0:(upd H l0 (.lst (N8.map V.str))) l0=u_ (.lst (N8.map V.str)):=qg;show nP _ _ _ _ (upd H l0 (.lst (N8.map V.str)));generalize upd H l0 (.lst (N8.map V.str))=H0 at s0 e0⊢;rw[8,N3,q3]
 rw[0,_,0,1,[():()],_,0,1,(by show(0:Int)<8;decide),1,0,lz (λ_=>?_) (λ_=>q3 _ _ ?_)]
 .let m1:0<=c/64%52/\c/64%52<52:=[Ud _ ():U5 _ ()]
  rw[0,0,_,0,1,[():()],_,0,1,(by show(0:Int)<52;decide),_,0,1,_,0,((),(),(),()),λD hD=>?_]
  obtain⟨j,hj,aa⟩:∃j:Nat,(9+c/64%52-8).toNat=j/\j<=52:=[0:()]
  rw[hj];refine xr (lo:=8) (n:=j) (tl:= []) (λi ys H'=>ys=((VN i).map nK).map V.str/\ie H0 H') (yA ()) [1:qf hD _] ?_ ?_
  .rintro i ys H' hi ⟨rfl,s1⟩ O hy R hR;let hn:=AdD i ()
   let ac:(8+(i:Int)).natAbs.log2<1920:=UI (Vc _) ()
   rw[0,0,ac,_,0,1,?_,?_]
   .have:=hn.2;rw[<-BW];exact nj (uP this ())
   .refine hR _ H' O ⟨?_,λb o e=>by rw[qk (qi e hD)];exact s1 b o e⟩
    rw[Fk,uA,uA]
    rfl
  .rintro ys H' ⟨rfl,s1⟩ O;let e1:=s1 _ _ e0;erw[AdE aa,n1,n2]
   rw[_,l0,D,_,0,1,e1,O,?_,λt ht=>?_]
   .rw[uc,uc,<-uE];exact nj (by have:=n1.2.1;omega)
   .refine k t (N8++(VN j).map nK) _ ((s0.trans s1).trans (qf ht _)) ?_ [n1:n2];rw[qg,uA]
 .let m1:0<=c%8/\c%8<8:=[Ud _ ():U5 _ ()]
  obtain⟨n,hn,ad,ae⟩:∃n:Nat,1+c%8=(n:Int)/\1<=n/\n<=8:=((1+c%8).toNat,(),(),())
  rw[0,0,_,0,1,(by show(0:Int)<8;decide),_,0,1]
  try dsimp only
  rw[hn]
  rw[0,l0,0,SqL.of e0,λl hl=>?_];rw[Ob,<-List.map_take];exact k l (N8.take n) _ (s0.trans (qf hl _)) qg (IC ad ae)
def Aa6:#[T,2,a.kS,a.Kc,["pot","names","k"],Aaa]:=by
 let qU:=#[jP,T];rw[9,T.ny,WA]
 erw[h,p,L,zs,j,rfl,ae,af,hP,hL,hN,k];let ad:=hP.ne_strs hL;rw[3,%[#[qy,(3),WA.nd,#[qL,yu,pv 1,#[qV,Y5,#[qV,yy,#[qV,yy,pv 2,qj],#[qr,qU,#[20],T.ig,qG,#v[pv 0,qj]]],#[qw,qN,T.yt,uK,#v[pv 1]]]]]|#[qp,#[qE,#v[qh,#[qE,#v[#[qV,Ql,qh,pv 3],qh,qh]]]]]]]
 rw[0,0,_,0,1,0,p,(3),1,hP,(),(),λd1 H1 a0 a1 P1 K1=>?_]
 let U:=K1 _ _ hL ad;let aa:0<(↑(zs.map V.str):Int):=by rw[uc];have:=hN.1;omega
 rw[_,_,0,1,0,L,0,.inl (SqL.of U),_,0,1,aa];erw[YD (xs:=zs.map V.str) (i:=(j+1+d1)%(↑(zs.map V.str):Int)) (Ud _ ()) (U5 _ aa),x1,ac]
 erw[Af.mp (jY ac),z,hz,rfl]
 rw[_,L,_,_,0,1,SqL.of U,ac];let O:=hN.2.2 z hz;let ta:Wd 7 "text a ":=[():Vv _]
 let wz:Wd 4 z:=[CC O.1:O.2]
 rw[0,_,0,1,nj (by have:=O.2;have:=ta.2;omega),sml rfl,λt ht=>?_]
 let all:∀y>(["text a "++z,"ask b a","say b"]:oj Str),Wd 20 y:=λy hy=>by
  simp![uH,uI,uU] at hy;rcases hy with rfl|rfl|rfl
  .exact ta.cat wz ()
  .exact[():()]
  .exact[():()]
 let s2:=qf ht (.tup ((["text a "++z,"ask b a","say b"]:oj Str).map V.str));exact Ec (.inr rfl) (sr (by show 3<=14;decide) all) (Wc all ht) λt2 H2 s3 i3 h3=>k _ _ H2 h3 i3 ((P1.same s2).same s3) ((K1.trans (ll.of s2)).trans (ll.of s3))
def Nf:#[T,7,a.zw,a.zx,["script"],(S9 K)]:=by
 let YO:=#[Ip,T];let aa:=#[Aa6,T];let qU:=#[jP,T];let Ws:=#[Ic,T];let U:=#[AaU,T];rw[9,T.mF,Q2]
 erw[h,q,ns,rfl,hq,k];let hs:=uF;rw[3,%[#[qy,(1),Q2.nd,#[qr,YO,#[20],T.iY,qG,#v[pv 0]]],#[qy,(2),Q2.nd,#[QN,qd]],#[YH,#[YJ,#v[#[qw,qN,T.yt,uK,#v[pv 1]]]],#[qW,(3),Q2.nd],%[#[qy,(4),Q2.nd,#[qw,#[AO,1,rfl],T.z_sum,boot_sum,#v[#[EN,9,pv 0,#[jZ,#[qV,yy,qj,pv 3]],#[qw,#[LW,1,rfl],T.z_max,boot_max,#v[qj,#[qw,qN,T.yt,uK,#v[pv 1]]]],_]]]],#[qy,(5),Q2.nd,#[qr,Ws,#[20],T.mY,qG,#v[pv 4,pv 3]]]|@qK _ _ _ _ _ _ _ _ #[zq,#[qo,qax,#[qw,qN,T.yt,uK,#v[pv 1]],qj],#[J0,#[qo,Qn,#[qr,qU,#[20],T.ig,qG,#v[pv 5,qj]],qj]]].pt %[|#[Qe,#[Jm,vh,U3,U4,jv,pv 2,#v[#[qE,#v[#[qL,yu,pv 1,pv 3],#[qr,aa,#[20],T.ny,qG,#v[pv 5,pv 1,pv 3]]]]]]]] %[|#[qK,#[qo,M3,#[qV,Y5,pv 4,qj],qj],%[|#[Qe,#[Jm,vh,U3,U4,jv,pv 2,#v[#[qE,#v[#[qL,yu,pv 1,pv 3],#[qr,U,#[20],T.mR,qG,#v[pv 5,pv 1]]]]]]]],qu]]]]|#[qp,pv 2]]]
 rw[8,N1,q1]
 rw[0,q,ns,1,hq,λl zs H1 s1 e1 hU=>q1 _ _ ?_];erw[hU,hN,ay];rw[8,N2,q2]
 rw[_,uN _,λL hL=>q2 _ _ ?_];rw[8,N3,q3];let s2:=s1.trans (qf hL (.lst ([]:oj V)));let aE:H L=none:=s1.free hL;let aF:l≠L:=qi e1 hL;let e2:=qf hL (.lst ([]:oj V)) _ _ e1;let eL:(upd H1 L (.lst [])) L=u_ (.lst []):=qg;generalize upd H1 L (.lst [])=H2 at s2 e2 eL⊢;let aK:=hN.2.1
 rw[0,l,0,.inl (SqL.of e2),↑zs,by rw[uc],(),()]
 refine_lift let J_:Nat->L2.St->Hp->Prop:=λi σ H'=>∃(ps:#[23]) (us:oj V) (x3 x4 x5:om V),σ= [u_ (-q),u_ (-l),u_ (-L),x3,x4,x5]/\ie H H'/\H' l=u_ (.lst (zs.map V.str))/\H' L=u_ (.lst us)/\L2.IsL H' (ps.map prD) us/\(#[17]).Sublist (zs.take i)/\∀p>ps,Zw p.2;?_
 refine W1 (n:=↑zs) J_ ([],[],U_,U_,U_,1,s2,e2,eL,1,List.nil_sublist _,λp hp=>by simp at hp) ?_ ?_
 .rintro i σ H' hi ⟨ps,us,x3,x4,x5,rfl,sm,el,ap,ak,O,ad⟩;let aL:↑ps<=60:=by
   let h1:=O.length_le;rw[uc,U6] at h1;omega
  let aG:=↑ak;rw[uc] at aG;let aM:(↑(zs.map V.str):Int)=(↑zs:Int):=by rw[uc]
  show nP _ _ _ _ H';rw[8,B1,b1]
  rw[0,0,_,0,1,0,0,l,0,.inl (SqL.of el),_,0,0,(by split<;>omega),q,0,Dl hq sm,λys y0 _ aA aH=>?_]
  erw[Lf aA,ms,rfl];let sy:=qf aH (.lst (ms.map V.int));let ey:(upd H' y0 (.lst (ms.map V.int))) y0=u_ (.lst (ms.map V.int)):=qg;let ag:=sy _ _ ap;let ah:=sy _ _ el;generalize upd H' y0 (.lst (ms.map V.int))=H3 at sy ey ag ah⊢;let am:=ak.mono sy.tk;let aB:=sm.trans sy
  rw[_,y0,ms,1,SqL.of ey,b1 _ _ ?_];rw[8,B2,b2]
  rw[0,0,_,0,(),(),λp H4 hp s4 P4=>b2 _ _ ?_]
  let ac:=s4 _ _ ah;let aq:=s4 _ _ ag;let au:L≠p:=qi ag hp;let ae:l≠p:=qi ah hp;let aw:i<↑zs:=hi;let ax:atI (zs.map V.str) (0+(i:Int))=u_ (V.str zs[i]):=by
   rw[show(0:Int)+(i:Int)=((i:Nat):Int) by omega]
   exact Qk (by rw[uG,um aw];rfl)
  let hz:=hN.2.2 _ (v9 aw);let put:∀(v:V) (d:D) (H5:Hp) (x3 x4 x5:om V),Zw d->Is H5 d v->ll p H4 H5->∀t,H5 t=U_->EH (-L) [-t] (upd H5 t (-[.str zs[i],v])) (λ_ H1=>J_ (i+1) [u_ (-q),u_ (-l),u_ (-L),x3,x4,x5] H1):=by
   intro v d H5 x3 x4 x5 hd hv K5 t ht;let af:ie H3 H5:=K5.same s4 hp;let st:=qf ht (-[.str zs[i],v]);let aC:Is (upd H5 t (-[.str zs[i],v])) (prD (zs[i],d)) (-t):=Is.new (ds:= [.str zs[i],d]) (_,0,[1:nj ()],_,0,hv,1) ht
   generalize upd H5 t (-[.str zs[i],v])=H6 at st aC⊢;let al:=af.trans st;let aD:=al _ _ ag
   rw[_,L,us,0,1,aD,()]
   let tk:Tk H6 (upd H6 L (.lst (us++ [-t]))):=Tk.updL aD
   rw[_,ps++ [(zs[i],d)],us++ [-t],_,_,0,λb o e=>?_,?_,qg,?_,?_,λp' aI=>?_]
   .rw[qk (qi e aE)];exact al _ _ (aB _ _ e)
   .rw[qk aF];exact al _ _ ah
   .rw[uA];exact((am.mono al.tk).mono tk).append (L2.IsL.one (aC.mono tk))
   .rw[Mq aw,uA];exact O.append (f_ _)
   .rcases Ae.mp aI with h|h
    .exact ad p' h
    .rw[Ac.mp h,0];exact hd
  let ao:∀(H5:Hp) (x3 x4 x5:om V),ll p H4 H5->J_ (i+1) [u_ (-q),u_ (-l),u_ (-L),x3,x4,x5] H5:=λH5 x3 x4 x5 K5=>by
   let af:ie H3 H5:=K5.same s4 hp;exact(ps,us,_,_,0,aB.trans af,af _ _ ah,af _ _ ag,am.mono af.tk,O.trans (by rw[Mq hi];exact List.sublist_append_left _ _),ad)
  rw[0,l,0,.inl (SqL.of ac),_,0,1,0];by_cases c8:(8:Int)<(↑(zs.map V.str):Int)
  .refine lD (ua c8) ?_
   rw[0,p,(3),1,P4,(),(),λd5 H5 a5 b5 P5 K5=>[1:0:?_]]
   by_cases c3:d5=0
   .refine lD (ua (by rw[c3])) ?_
    rw[0,.inl [1:_:SqL.of (K5 _ _ aq au)],0,0,l,_,_,V.str zs[i],1,1,SqL.of (K5 _ _ ac ae),ax];exact(0,0,0,p,l,zs,0,(),(),P5,K5 _ _ ac ae,hN,λv d H6 hd hv P6 K6=>[sml rfl:put v d H6 _ _ _ hd hv (K5.trans K6)])
   .refine iU (ub (λz=>c3 (V.int.inj z))) ?_
    rw[0,_,0,1,(by show(0:Int)<11;decide),1,0,lz (λ_=>?_) (λ_=>ao _ _ _ _ K5)]
    rw[0,.inl [1:_:SqL.of (K5 _ _ aq au)],0,0,l,_,_,V.str zs[i],1,1,SqL.of (K5 _ _ ac ae),ax];exact(0,0,p,l,zs,1,P5,K5 _ _ ac ae,hN,λv d H6 hd hv P6 K6=>[sml rfl:put v d H6 _ _ _ hd hv (K5.trans K6)])
  .refine iU (ub c8) ?_;let K5:=ll.refl p H4;let P5:=P4
   rw[0,_,0,1,(by show(0:Int)<11;decide),1,0,lz (λ_=>?_) (λ_=>ao _ _ _ _ K5)]
   rw[0,.inl [1:_:SqL.of (K5 _ _ aq au)],0,0,l,_,_,V.str zs[i],1,1,SqL.of (K5 _ _ ac ae),ax];exact(0,0,p,l,zs,1,P5,K5 _ _ ac ae,hN,λv d H6 hd hv P6 K6=>[sml rfl:put v d H6 _ _ _ hd hv (K5.trans K6)])
 .rintro σ H' ⟨ps,us,x3,x4,x5,rfl,sm,el,ap,ak,O,ad⟩;rw[vN] at O;let aJ:=O.length_le;rw[uc] at aJ;refine q3 _ _ ?_;exact[0:k L ps us H' sm ap ak [[λz hz=>(hN.2.2 z (O.mem hz)).1:ay.1.sublist O]:ad] (λp hp=>[(hN.2.2 _ (O.mem (TM hp))).2:ay.2 _ (O.mem (TM hp))]) ()]
def AaR:#[T,3,a.Ja,a.Jl,["script"],(Es K)]:=by
 let YO:=#[Ip,T];rw[9,T.lV,jA]
 erw[h,q,ns,rfl,hq,k];rw[3,%[#[qy,(1),jA.nd,#[qr,YO,#[20],T.iY,qG,#v[pv 0]]],#[qK,#[qo,Dy,#[qw,qN,T.yt,uK,#v[pv 1]],qj],%[|#[qp,#[QN,#v[qh,qh,qh,qh,qh,qh,qh,qh]]]],qu]|#[qp,pv 1]]]
 rw[0,q,ns,1,hq,λl zs H1 s1 U hU=>?_]
 rw[0,l,0,.inl (SqL.of U),_,0,1,0,lz (λ_=>?_) (λ_=>[0:k l zs H1 s1 U hU])]
 rw[_,sml rfl,λl0 O=>?_];exact k l0 N8 _ (s1.trans (qf O _)) qg (IC (n:=8) () ())
def Np:#[T,4,a.jt,a.jE,["script","salt","many"],(ME K)]:=by
 let wk:=#[AaR,T];let qU:=#[jP,T];let Ws:=#[Ic,T];rw[9,T.lL,yJ]
 erw[h,q,ns,st,n,rfl,hq,h0,h1,hn,k];let hs:=uF;rw[3,%[#[qy,2,(3),4,yJ.nd,rfl,GL rfl,#[qr,Ws,#[20],T.mY,qG,#v[#[qw,#[AO,1,rfl],T.z_sum,boot_sum,#v[pv 0]],pv 1]],_,_],#[qy,2,(4),4,yJ.nd,rfl,GL rfl,#[qV,ZC,#[qr,wk,#[20],T.lV,qG,#v[pv 0]],#[QN,#v[qh]]],_,_]|#[qp,#[zW,["k","names","pot"],[4,3],Mf (ql yc) ["script","salt","many","pot","names"],#[YJ,#v[pv 2]],(λ_ _ _ _ _ _=>#[qW,(0),(show VZ (["k","names","pot"]:oj Str) by rw[12])]),(λ_ _ _ _ _ _=>#[qL,#[NJ,1,K,rfl],pv 1,#[qr,qU,#[20],T.ig,qG,#v[pv 2,#[qw,#[qaO,1,K,rfl],T.yt,uK,#v[pv 1]]]]])]]]]
 rw[8,N1,q1]
 rw[0,q,ns,1,hq,0,_,0,h0,h1,λp H1 af s1 P1=>q1 _ _ ?_];rw[8,N2,q2]
 rw[0,q,ns,1,Dl hq s1,λl zs H2 s2 e2 hU=>?_]
 rw[_,sml rfl,λl3 h3=>?_];let s3:=qf h3 (.lst [V.str "zz"]);let hl:=hU.1.2.1
 rw[_,l,l3,_,0,1,s3 _ _ e2,qg,(by rw[uc];show _+1<=Vw;omega),λl4 h4=>q2 _ _ ?_]
 let s4:=qf h4 (.lst (zs.map V.str++ [V.str "zz"]));let e4:upd (upd H2 l3 (.lst [V.str "zz"])) l4 (.lst (zs.map V.str++ [V.str "zz"])) l4=u_ (.lst ((zs++ZZ).map V.str)):=by
  rw[qg,uA]
  rfl
 let O:=(s2.trans s3).trans s4;let P4:=P1.same O;let hz:∀z>zs++ZZ,nm z=v_/\↑z<=4:=λz hz=>by
  rcases Ae.mp hz with h|h
  .exact hU.1.2.2 z h
  .rw[Ac.mp h,0];exact AeN
 let ak:↑(zs++ZZ)=↑zs+1:=uE;generalize upd (upd H2 l3 (.lst [V.str "zz"])) l4 (.lst (zs.map V.str++ [V.str "zz"]))=H4 at e4 O P4⊢;let ad:=P4.ne_strs e4
 rw[0,0,(),(),λD hD=>?_]
 let nD:D≠p:=(P4.free hD).symm;let ag:H p=none:=af;refine xr (lo:=0) (n:=n) (tl:= [u_ (-l4),u_ (-p)]) (λi ys H'=>∃rs:oj Str,ys=rs.map V.str/\(∀r>rs,nm r=v_/\↑r<=4)/\mM H' p/\(∀b o,H4 b=u_ o->b≠p->H' b=u_ o)/\↑rs=i) (yA ()) ([],1,(λb hb=>by simp at hb),P4.same (qf hD _),λb o e _=>qf hD _ _ _ e,1) ?_ ?_
 .rintro i ys H' hi ⟨rs,rfl,U,P',K',aa⟩ ac hy R hR;let e5:=K' _ _ e4 ad
  rw[0,0,0,l4,0,.inl (SqL.of e5),p,0,P',(by rw[uc];omega),(by rw[uc];omega),λd6 H6 a6 b6 P6 K6=>?_]
  erw[YD (xs:=(zs++ZZ).map V.str) (i:=d6) a6 b6,x1,ae];erw[Af.mp (jY ae),z,ah,rfl]
  rw[_,l4,_,_,0,1,SqL.of (K6 _ _ e5 ad),ae];refine hR _ H6 (K6 _ _ ac nD) (rs++ [z],by rw[uA];rfl,λb hb=>?_,?_,λb o e np=>?_,by rw[uE,aa];rfl)
  .rcases Ae.mp hb with h|h
   .exact U b h
   .rw[vv] at h;subst h;exact hz b ah
  .erw[P6,x,e2,h2,<-⟨x,by rwa[qk nD.symm],h2⟩]
  .rw[qk (qi e hD)];exact K6 _ _ (K' b o e np) np
 .rintro ys H' ⟨rs,rfl,U,P',K',aa⟩ ac;exact k D rs H' (λb o e=>K' b o (O _ _ (s1 _ _ e)) (qi e ag)) ac U aa
inductive Aal:Sp
 |mk (v:V)(d:D)(_:vs= [v])(_:Is H d v)(_:∀(u:V)(H':Hp),ie H H'->((yf d).isSome=v_->u= .non)->((yf d).isSome=Vt->u≠ .non)->Q u H')
inductive Eo:Sp
 |mk (v:V)(d:D)(_:vs= [v])(_:Is H d v)(_:∀H',ie H H'->Q (.bl (yf d).isSome) H')
def Abh:#[C,4,a.Ku,a.k9,["tree"],Aal]:=by
 let J5:=#[Ib,T,C];rw[9,T.nO,Bj]
 erw[h,v,d,rfl,hv,k];rw[3,%[|#[qp,#[qL,qJ,#[qr,J5,#[20],T.md,qG,#v[pv 0]],qj]]]]
 rw[0,v,d,1,hv,λu H' x y s' U hu=>?_];erw[hu,p,ws,rfl,hp,w1,r1,rfl,h1,w2,r2,rfl,h2,h3];rw[show r2= [] from h3,0]
 rw[_,p,_,_,0,1,SqT.of hp,1,k _ H' s' (λe=>?_) (λe=>?_)]
 .erw[X7 e,rs,O];erw[U.1 rs O,_,rfl,<-h2]
 .let hn:yf d=none:=by
   cases hh:yf d with
   |none=>rfl|some rs=>rw[hh,0] at e
  erw[U.2 hn,i,rfl];intro z;rw[z] at h2;rw[show V.non= .int i from h2,0]
def Aj:#[C,5,a.f_is_rule,a.d_is_rule,["value"],Eo]:=by
 let O:=#[Abh,T,C];rw[9,T.m6,Do,U]
 erw[h,v,d,rfl,hv,k];rw[3,%[|#[qp,#[yQ,Yz,#[qr,O,U.mono (),T.nO,qG,#v[pv 0]],qY,qx _]]]]
 rw[0,v,d,1,hv,λu H' s' h1 h2=>[1:?_]];let e:decide (u=V.non)=(yf d).isSome:=by
  cases c:(yf d).isSome with
  |true=>rw[h1 c];rfl|false=>exact ub (h2 c)
 have:=k H' s';rwa[<-e] at this
end
def Ez {n:Nat}:∀{ds:oj D},(∀d>ds,(Qr n d).isSome=v_)->↑(ds.filterMap (Qr n))=↑ds/\ds=(ds.filterMap (Qr n)).map (λr=>D.str (yW r))/\∀r>ds.filterMap (Qr n),jH n 300 r
 | [],_=>[1:1:λr h=>nomatch h]|d::ds,h=>by
  erw[X7 (h d uj),r,O];obtain⟨h1,h2,h3⟩:=Ez (n:=n) (ds:=ds) λx U=>h x (ui _ U);let hd:d= .str (yW r)/\jH n 300 r:=by
   cases d with
   |str z=>
    obtain⟨a1,a2⟩:=Ck (show wE n z=u_ r from O)
    exact⟨by rw[a2],a1⟩
   |non=>rw[O,0]|bl b=>rw[O,0]|int i=>rw[O,0]|lst=>rw[O,0]|dct=>rw[O,0]|tup xs=>rw[O,0]
  rw[Uu O];rw[_,by rw[uw,uw,h1],by rw[ur,<-h2,hd.1],λx U=>?_]
  rcases Ab.mp U with rfl|U
  .exact hd.2
  .exact h3 x U
variable {rs:oj Rw}
set_option tactic.hygienic true in
def sU {d:D}(h:yf d=u_ rs):d=y9 rs/\yg rs:=by
 cases d with
 |tup ds=>
  rw[X6] at h;split at h
  .rename_i O
   simp![uB,uT] at O;erw[O,[[c1,c2],U],c4];rw[h,0];erw[Ez (List.all_eq_true.mp U),h1,h2,h3];let e:D.tup ds=y9 (ds.filterMap (Qr ↑ds)):=by
    unfold y9;rw[<-h2]
   refine⟨e,((),(),?_,by rwa[<-e])⟩
   rwa[h1]
  .rw[h,0]
 |non=>rw[h,0]|bl b=>rw[h,0]|int i=>rw[h,0]|str z=>rw[h,0]|lst=>rw[h,0]|dct=>rw[h,0]
abbrev GMT:oj Str:= ["begin","look","wanted","take","full"]
structure GFl (fs:oj (Str×V))(nv ov mv av rv ev:V):Prop where
 ZY:fs.lookup ("name":Str)=u_ nv
 WS:fs.lookup ("order":Str)=u_ ov
 YS:fs.lookup ("made_by":Str)=u_ mv
 Yc:fs.lookup ("rule_asks":Str)=u_ av
 Qy:fs.lookup ("rule_run":Str)=u_ rv
 f_end:fs.lookup ("end":Str)=u_ ev
 meth:∀m>GMT,fs.lookup m=U_
 len:↑fs<=20
section
variable {fs:oj (Str×V)}{nv ov mv av rv ev:V}
def GFl.set_made_by {u:V}(h:GFl fs nv ov mv av rv ev):GFl (iH "made_by" u fs) nv ov u av rv ev:=by
 refine(?_,?_,?_,?_,?_,?_,λm hm=>?_,by rw[Y6 h.YS];exact h.len)
 all_goals rw[qM]
 rw[18]
def GFl.set_rule_asks {u:V}(h:GFl fs nv ov mv av rv ev):GFl (iH "rule_asks" u fs) nv ov mv u rv ev:=by
 refine(?_,?_,?_,?_,?_,?_,λm hm=>?_,by rw[Y6 h.Yc];exact h.len)
 all_goals rw[qM]
 rw[18]
def GFl.set_rule_run {u:V}(h:GFl fs nv ov mv av rv ev):GFl (iH "rule_run" u fs) nv ov mv av u ev:=by
 refine(?_,?_,?_,?_,?_,?_,λm hm=>?_,by rw[Y6 h.Qy];exact h.len)
 all_goals rw[qM]
 rw[18]
def GFl.set_end {u:V}(h:GFl fs nv ov mv av rv ev):GFl (iH "end" u fs) nv ov mv av rv u:=by
 refine(?_,?_,?_,?_,?_,?_,λm hm=>?_,by rw[Y6 h.f_end];exact h.len)
 all_goals rw[qM]
 rw[18]
end
structure Gc where
 (x o:o3)
 n:Str
structure Gs where
 mb:D
 ra:oj D
 run:om (Mc×Rn)
 en:D
abbrev ke (CM:o3)(H:Hp)(x:o3)(rv:V):om (Mc×Rn)->Prop
 |none=>rv= .non|some (m,r)=>rv= .ref m.x/\m.x≠x/\yU CM H m r
abbrev mq (C CM:o3)(H:Hp)(g:Gc)(s:Gs):Prop:=
 ∃(dx:o3) (fs:oj (Str×V)) (mv av rv ev:V),H g.x=u_ (.ins C dx fs)/\GFl fs (!g.n) (-g.o) mv av rv ev/\Is H s.mb mv/\Is H (¬s.ra) av/\ke CM H g.x rv s.run/\Is H s.en ev
variable {CM:o3}
def ke.same {x:o3}{o:om (Mc×Rn)}(h:ke CM H x rv o)(s:ie H H'):ke CM H' x rv o:=by
 cases o with
 |none=>exact h|some p=>exact[h.1:h.2.1:h.2.2.same s]
def mq.same {g:Gc}{s:Gs}(h:mq C CM H g s)(sm:ie H H'):mq C CM H' g s:=by
 erw[h,dx,fs,mv,av,rv,ev,e,f,i,j,k,l,<-(dx,fs,mv,av,rv,ev,sm _ _ e,f,i.mono sm.tk,j.mono sm.tk,k.same sm,l.mono sm.tk)]
def yU.put {m:Mc}{r:Rn}{x:o3}{fs:oj (Str×V)}(h:yU CM H m r)(e:H x=u_ (.ins C dx fs))(n:m.x≠x):yU CM (upd H x (.ins C dx fs')) m r:=by
 erw[h,U,fm,rv,ru,tv,gv,e1,f,i,j,b,O,gl,t];let tk:Tk H (upd H x (.ins C dx fs')):=Tk.updI e;let n1:m.db≠x:=YF.ne e b;let n2:m.dg≠x:=λz=>by rw[z,e,0] at O
 exact(U,fm,rv,ru,tv,gv,by rwa[qk n],f,i.mono tk,j.mono tk,b.move tk (qk n1),by rwa[qk n2],gl.mono tk,t.mono tk)
def ke.put {x:o3}{fs:oj (Str×V)}{o:om (Mc×Rn)}(h:ke CM H x rv o)(e:H x=u_ (.ins C dx fs)):ke CM (upd H x (.ins C dx fs')) x rv o:=by
 cases o with
 |none=>exact h|some p=>exact[h.1:h.2.1:h.2.2.put e h.2.1]
structure Gv (g:Gc)(H H':Hp):Prop where
 kept:∀b o,H b=u_ o->b≠g.x->H' b=u_ o
 tk:Tk H H'
def Kx {g:Gc}{fs:oj (Str×V)}{mv av ev:V}{s:Gs}(e:H g.x=u_ (.ins C dx fs))(f:GFl fs' (!g.n) (-g.o) mv av rv ev)(i:Is H s.mb mv)(j:Is H (¬s.ra) av)(k:ke CM H g.x rv s.run)(l:Is H s.en ev):
  mq C CM (upd H g.x (.ins C dx fs')) g s/\Gv g H (upd H g.x (.ins C dx fs')):=by
 let tk:Tk H (upd H g.x (.ins C dx fs')):=Tk.updI e;exact⟨(dx,fs',mv,av,rv,ev,qg,f,i.mono tk,j.mono tk,k.put e,l.mono tk),⟨λb o h n=>by rwa[qk n],tk⟩⟩
abbrev Ao (s:Gs)(r:Rn):Gs:=if QH r.th=v_ then s else{s with en:=r.th}
inductive Ty (C CM:Addr):Sp
 |mk (g:Gc)(s:Gs)(m:Mc)(r:Rn)(_:vs= [-g.x])(_:mq C CM H g s)(_:s.run=u_ (m,r))(_:Th r.th)(_:∀H',Gv g H H'->mq C CM H' g (Ao s r)->Q .non H')
section
variable {P:o9}{w:og}{K:o0}{mg:Str->om o6}{base:o8}{a:Ad}{g:Ga}
def Ih:#[T,2,a.Z3,a.ZR,["self"],(Ty a.qO a.qm)]:=by
 let Qu:=#[Bz,T];let QY:=#[Ie,T];rw[9,T.mi,KW]
 erw[h,g,st,m,r,rfl,hG,O,aa,k];rw[3,%[|#[qK,#[Qv,#[Qh,#[QC,#[qQ,5,pv 0,rfl],T.qt,T.io,Qu]]],%[|#[Qj,#[QC,#[qQ,5,pv 0,rfl],T.qt,T.iw,QY]]],qu]]]
 erw[id hG,dx,fs,mv,av,rv,ev,e,f,i,j,hR,l];rw[O] at hR;erw[hR,rfl,hn,hM];erw[id hM,dm,fm,ac,ru,tv,gv,em,U,i1,i2,i3,i4,i5,i6]
 rw[0,g.x,_,dx,fs,0,e,T.qT,T.qZ,f.Qy,m.x,dm,fm,1,em,U.meth _ (),m,r,1,hM,aa,0]
 cases c:QH r.th with
 |true=>
  refine iX (k H [λ_ _ h _=>h:Tk.refl H] ?_);unfold Ao;rwa[A6 c]
 |false=>
  refine lG ?_
  rw[0,g.x,_,dx,fs,0,e,T.qT,T.qZ,f.Qy,m.x,dm,fm,1,em,U.meth _ (),m,r,1,hM,λv hv=>?_]
  rw[5]
  refine(0,g.x,_,dx,fs,1,e,T.qT,T.Q4,by have:=f.len;omega,?_)
  let hS:Ao st r={st with en:=r.th}:=by
   unfold Ao;rw[c];exact A4 uh
  obtain⟨m1,m2⟩:=Kx (CM:=a.qm) (s:={st with en:=r.th}) e (f.set_end (u:=v)) i j (by rw[O];exact[1:hn:hM]) hv
  refine k _ m2 ?_;rw[hS];exact m1
inductive Ei (CM:Addr):Sp
 |mk (o:Addr)(v:V)(rs:List Rw)(own:Str)(_:vs= [-o,v,!own])(_:Is H (y9 rs) v)(_:yg rs)(_:nm own=v_)(_:∀(mc:Mc)(H':Hp),ie H H'->H mc.x=U_->H mc.db=U_->H mc.dg=U_->mc.rs=rs->mc.own=own->yU CM H' mc (lC rs own [] 300 B0 1 0)->Q (-mc.x) H')
def E8:#[C,8,a.YV,a.YZ,["self","rule","own"],(Ei a.qm)]:=by
 let jl:=#[Cy,T,C];rw[9,T.ky,xG]
 erw[h,o,v,rs,own,rfl,hv,hR,hn,k];let hl:=Am hn;let hI:∀H:Hp,Is H (!own) (!own):=λH=>QJ ()
 rw[3,%[|#[qp,#[Jq,T.M_Machine,jl,#[20],T.m_Machine,T.lr,Dw,#v[pv 1,pv 2]]]]]
 rw[0,0,λx dx hx aa nx=>?_];let U:ie H (upd (upd H dx (.own x)) x (.ins a.qm dx [])):=λb o h=>by rwa[qk (qi h hx),qk (qi h aa)]
 rw[_,x,dx,v,!own,y9 rs,!own,1,qg,hv.mono U.tk,hI _,λz=>?_,λ_ z=>?_,λO af e1 ac e2 ag ah H' db dg kept ad ae hM=>[1:?_]]
 .rw[hR.read,0] at z
 .have:mO (!own)=true:=hn;rw[this,0] at z
 .let e3:O=rs:=by
   let h1:=hR.read;rw[e1,ac.read] at h1;exact uJ h1
  rw[e2,0];subst e3;exact k (x,db,dg,O,own) H' (λb o h=>kept b o (U b o h) (qi h hx)) hx (U.free ad) (U.free ae) rfl rfl hM
abbrev R0 (rs:oj Rw)(n:Str):Rn:=lC rs n [] 300 B0 1 0
structure On (H:Hp)(g:Gc)(d:D)(s s':Gs):Prop where
 mb:s'.mb=s.mb
 ra:s'.ra=s.ra
 lack:d= .non->s'.run=U_/\s'.en=flt "lack"
 rule:d≠ .non->yf d=U_->s'.run=U_/\s'.en=flt "rule"
 go:∀rs,yf d=u_ rs->∃mc:Mc,H mc.x=U_/\H mc.db=U_/\H mc.dg=U_/\mc.rs=rs/\mc.own=g.n/\s'.run=u_ (mc,R0 rs g.n)/\s'.en=if QH (R0 rs g.n).th=v_ then s.en else(R0 rs g.n).th
inductive MG (C CM CO:Addr):Sp
 |mk (g:Gc)(s:Gs)(v:V)(d:D)(_:vs= [-g.x,v])(_:mq C CM H g s)(_:s.run=U_)(_:nm g.n=v_)(_:Is H d v)(_:(∃dx fs,H g.o=u_ (.ins CO dx fs)/\fs.lookup ("runner":Str)=U_))(_:∀H' s',Gv g H H'->mq C CM H' g s'->On H g d s s'->Q .non H')
def Ael {n:Str}(h:yg rs):Sx rs (R0 rs n):=Bm h 300 B0 1 0 [] rfl Acj () (by have:=h.n0;omega) ⟨1,by simp[dpL],Vv _⟩
def AfL {n:Str}(h:yg rs):Th (R0 rs n).th:= .inr (Ael h).two
def Cz:#[C,9,a.zJ,a.zj,["self","rule"],(MG a.qO a.qm a.qq)]:=by
 let WO:=#[Aj,T,C];let XF:=#[E8,T,C];let J8:=#[Ih,T];rw[9,T.lU,kj]
 erw[h,g,st,v,d,rfl,hG,O,hn,hv,[ad,ae,ho,af],k];let hs:=uF;erw[id hG,dx,fs,mv,av,rv,ev,e,f,i,j,hR,l];rw[O] at hR;rw[3,%[|#[qK,#[qo,Yz,pv 1,qY],%[|#[Qj,#[qE,#v[qh,qh]]]],%[|#[qK,#[Qv,#[Qh,#[qr,WO,#[20],T.m6,qG,#v[pv 1]]]],%[|#[Qj,#[qE,#v[qh,qh]]]],%[#[Qj,#[Qw,#[qQ,5,pv 0,rfl],T.qz,T.ky,XF,#v[pv 1,#[qQ,5,pv 0,rfl]]]]|#[Qe,#[QC,pv 0,T.qT,T.mi,J8]]]]]]]]
 rw[0,1,0];let fl:∀(z:Str) (H:Hp) (l:o3),↑z<=100->H l=U_->Is (upd H l (-[-"fault",!z])) (flt z) (-l):=λz H l hz hl=>Is.new (ds:= [-"fault",!z]) (_,0,QJ (),_,0,QJ (),1) hl
 let aa:↑fs<1000:=by have:=f.len;omega
 let put:∀(z:Str) (t:o3) (H':Hp),↑z<=100->ie H H'->H' t=U_->((d= .non->z="lack")/\(d≠ .non->z="rule"/\yf d=U_))->Q .non (upd (upd H' t (-[-"fault",!z])) g.x (.ins a.qO dx (iH "end" (-t) fs))):=λz t H' hz s' ht hd=>by
  let s1:=s'.trans (qf ht (-[-"fault",!z]));obtain⟨m1,m2⟩:=Kx (CM:=a.qm) (g:=g) (s:={st with en:=flt z}) (s1 _ _ e) (f.set_end (u:=-t)) (i.mono s1.tk) (j.mono s1.tk) (by show ke _ _ _ _ st.run;rwa[O]) (fl z H' t hz ht)
  refine k _ _ [λb o h n=>m2.kept b o (s1 b o h) n:s1.tk.trans m2.tk] m1 (1,1,λh=>⟨O,by rw[hd.1 h]⟩,λh _=>⟨O,by rw[(hd.2 h).1]⟩,λrs h=>?_)
  by_cases c:d= .non
  .rw[c,0] at h
  .rw[(hd.2 c).2,0] at h
 by_cases c:d= .non
 .subst c;rw[show v= .non from hv,0]
  refine lD (ua rfl) [(sml rfl):λt ht=>?_]
  rw[0,g.x,_,dx,fs,1,(qf ht _) _ _ e,T.qT,T.Q4,aa];exact put "lack" t H () (ie.refl _) ht [λ_=>rfl:λh=>A9 rfl h]
 .refine iU (ub (Ze hv c)) ?_
  rw[0,v,d,1,hv,λH1 s1=>[0:?_]];cases hd:yf d with
  |none=>
   refine lG [(sml rfl):λt ht=>?_]
   rw[0,g.x,_,dx,fs,1,(qf ht _) _ _ (s1 _ _ e),T.qT,T.Q4,aa];exact put "rule" t H1 () s1 ht [λh=>A9 h c:λ_=>[1:hd]]
  |some rs=>
   refine iX ?_;erw[sU hd,ed,ac];let e1:=s1 _ _ e
   rw[5]
   refine(0,g.x,_,dx,fs,0,e1,T.qT,T.X5,f.WS,g.o,ad,ae,1,s1 _ _ ho,af,0,0,g.x,_,dx,fs,0,e1,T.qT,T.Yn,f.ZY,g.o,v,rs,g.n,1,by rw[<-ed];exact hv.mono s1.tk,ac,hn,λmc H2 s2 nx nb ng ag ah hM=>?_)
   let e2:=s2 _ _ e1;let U:=s1.trans s2
   rw[0,g.x,_,dx,fs,1,e2,T.qT,T.qZ,aa];let ak:mc.x≠g.x:=(qi e1 nx).symm;erw[Kx (C:=a.qO) (CM:=a.qm) (g:=g) (s:={st with run:=u_ (mc,R0 rs g.n)}) e2 (f.set_rule_run (u:=-mc.x)) (i.mono U.tk) (j.mono U.tk) [1:ak:hM] (l.mono U.tk),m1,m2]
   erw[id m1,al,am,_,_,_,_,e3,f3,_]
   rw[0,g.x,al,am,1,e3,f3.meth _ (),g,_,mc,R0 rs g.n,1,m1,1,AfL ac,λH3 v3 G3=>k H3 _ [λb o h n=>v3.kept b o (m2.kept b o (U b o h) n) n:(U.tk.trans m2.tk).trans v3.tk] G3 ?_]
   unfold Ao
   rw[5]
   refine(by split<;>rfl,by split<;>rfl,λh=>A9 h c,(λ_ h=>by rw[hd,0] at h),λao h=>?_)
   rw[hd,0] at h
   rw[5]
   refine(mc,s1.free nx,s1.free nb,s1.free ng,ag,ah,by split<;>rfl,?_)
   split<;>rfl
inductive zC (C CM:Addr):Sp
 |mk (g:Gc)(s:Gs)(_:vs= [-g.x])(_:mq C CM H g s)(_:((s.run=U_/\∃z,s.mb= .str z/\∀v H',ie H H'->Is H' (-[-"rule",!z]) v->Q v H')\/∃mc r d,s.run=u_ (mc,r)/\r.th= .tup [-"asks",d]/\∀v,Is H d v->Q v H))
abbrev AcY:om (Mc×Rn)->oj D
 |none=> []|some (_,r)=>r.gs
abbrev NU (s:Gs):D:=-[.tup (s.ra++AcY s.run),s.en]
inductive Aah (C CM:Addr):Sp
 |mk (g:Gc)(s:Gs)(_:vs= [-g.x])(_:mq C CM H g s)(_:↑s.ra+↑(AcY s.run)<=1000)(_:∀v H',ie H H'->Is H' (NU s) v->Q v H')
variable {v:V}{Q:VK}
def BT {K:o0}{xs ys:oj D}{u:V}(O:Is H (¬xs) v)(U:Is H (¬ys) u)(hl:↑xs+↑ys<=1000)(k:∀p H',ie H H'->Is H' (.tup (xs++ys)) p->Q p H'):MS K v u H Q:=by
 erw[id O,a,vs,rfl,ha,ia];erw[id U,b,us,rfl,hb,ib];let la:=↑ia;let lb:=↑ib;let hs:=uF;rw[_,a,b,vs,us,1,1,SqT.of ha,SqT.of hb,(),λe=>?_,λ_ e=>?_,λ_ _ p hp=>?_]
 .have:xs= []:=List.length_eq_zero_iff.mp (by rw[e] at la;simpa using la.symm)
  rw[this] at k;exact k _ H (ie.refl _) U
 .have:ys= []:=List.length_eq_zero_iff.mp (by rw[e] at lb;simpa using lb.symm)
  rw[this,vg] at k;exact k _ H (ie.refl _) O
 .let n:=qf hp (.tup (vs++us));exact k _ _ n (p,0,qg,(ia.append ib).mono n.tk)
def E5:#[T,2,a.xM,a.xR,["self"],(zC a.qO a.qm)]:=by
 let QY:=#[Ie,T];rw[9,T.mB,wI]
 erw[h,g,st,rfl,hG,h];let hs:=uF;erw[id hG,dx,fs,mv,av,rv,ev,e,f,i,j,U,l];rw[3,%[#[qK,#[qo,Yz,#[qQ,5,pv 0,rfl],qY],%[|#[qp,#[qE,#v[qh,#[qQ,5,pv 0,rfl]]]]],qu]|#[qp,#[qL,Jz,#[QC,#[qQ,5,pv 0,rfl],T.qt,T.iw,QY],qj]]]]
 rw[0,g.x,_,dx,fs,0,e,T.qT,T.qZ,f.Qy,1,0];rcases h with⟨O,z,hz,k⟩|⟨mc,r,d,O,aa,k⟩
 .rw[O] at U;rw[show rv= .non from U,0]
  rw[hz] at i;obtain⟨rfl,hl⟩:=(show mv= .str z/\↑z<=Vw from i)
  refine lD (ua rfl) (0,g.x,_,dx,fs,0,e,T.qT,T.yC,f.YS,(sml rfl),λt ht=>?_);exact k _ _ (qf ht _) (Is.new (_,0,QJ (),_,0,[1:hl],1) ht)
 .rw[O] at U;erw[U,rfl,hn,hM];erw[id hM,dm,fm,ad,ru,tv,gv,em,ac,i1,i2,i3,i4,i5,i6];refine iU (ub (λz=>by rw[z,0])) ?_
  rw[0,g.x,_,dx,fs,0,e,T.qT,T.qZ,f.Qy,mc.x,dm,fm,1,em,ac.meth _ (),mc,r,1,hM,λv hv=>?_]
  rw[aa] at hv;exact .inr (.inl (XC (i:=1) (d:=d) hv (Qk (j:=1) rfl) λq hq=>k q hq))
def Abe:#[T,2,a.Z2,a.Z0,["self"],(Aah a.qO a.qm)]:=by
 let yG:=#[Io,T];rw[9,T.mU,zi]
 erw[h,g,st,rfl,hG,hl,k];let hs:=uF;erw[id hG,dx,fs,mv,av,rv,ev,e,f,i,j,hR,l];rw[3,%[#[qy,(1),zi.nd,#[yd,#[qo,Yz,#[qQ,5,pv 0,rfl],qY],#[qE,qd],#[QC,#[qQ,5,pv 0,rfl],T.qt,T.iM,yG]]]|#[qp,#[qE,#v[#[qV,XI,#[qQ,5,pv 0,rfl],pv 1],#[qQ,5,pv 0,rfl]]]]]]
 let fin:∀(v:V) (H1:Hp),ie H H1->Is H1 (.tup (AcY st.run)) v->AeY K (Acx 0) "rule_asks" [u_ (-g.x),u_ v] H1 λx H2=>Acx 1 [u_ (-g.x),u_ v] H2 λy H3=>MS K x y H3 λz H4=>AeY K (Acx 0) "end" [u_ (-g.x),u_ v] H4 λu H5=> [z,u].length<=Vw/\∀p,H5 p=U_->Q (-p) (upd H5 p (-[z,u])):=λv H1 s1 hv=>by
  rw[0,g.x,_,dx,fs,0,s1 _ _ e,T.qT,T.y7,f.Yc,0];refine BT (j.mono s1.tk) hv hl λz H4 s4 i4=>?_;let U:=s1.trans s4
  rw[0,g.x,_,dx,fs,0,U _ _ e,T.qT,T.Q4,f.f_end,(sml rfl),λp hp=>?_];let n:=qf hp (-[z,ev]);exact k _ _ (U.trans n) (Is.new (_,0,i4,_,0,l.mono U.tk,1) hp)
 rw[0,g.x,_,dx,fs,0,e,T.qT,T.qZ,f.Qy,1,0];cases O:st.run with
 |none=>
  rw[O] at hR fin;rw[show rv= .non from hR,0]
  refine lD (ua rfl) [(sml rfl):λt ht=>?_];exact fin _ _ (qf ht _) (Is.new (ds:= []) rfl ht)
 |some p=>
  erw[p,mc,r];rw[O] at hR fin;erw[hR,rfl,hn,hM];erw[id hM,dm,fm,ac,ru,tv,gv,em,aa,i1,i2,i3,i4,i5,i6];refine iU (ub (λz=>by rw[z,0])) ?_
  rw[0,g.x,_,dx,fs,0,e,T.qT,T.qZ,f.Qy,mc.x,dm,fm,1,em,aa.meth _ (),mc,r,1,hM,λv H1 s1 hv=>?_]
  exact fin v H1 s1 hv
structure Gw (g:Gc)(o:om (Mc×Rn))(H H':Hp):Prop where
 kept:∀b ob,H b=u_ ob->b≠g.x->(∀mc r,o=u_ (mc,r)->b≠mc.x/\b≠mc.db/\b≠mc.dg)->H' b=u_ ob
 tk:Tk H H'
inductive zk (C CM CO:Addr):Sp
 |mk (g:Gc)(s:Gs)(v:V)(d:D)(_:vs= [-g.x,v])(_:mq C CM H g s)(_:nm g.n=v_)(_:Is H d v)(_:g.o≠g.x)(_:(∃dx fs,H g.o=u_ (.ins CO dx fs)/\fs.lookup ("runner":Str)=U_))(_:((s.run=U_/\∃z,s.mb= .str z/\∀H' s',Gw g s.run H H'->mq C CM H' g s'->On H g d {s with ra:= [-[-[-"rule",!z],d]]} s'->Q .non H')\/∃mc r u q,s.run=u_ (mc,r)/\mc.own=g.n/\yg mc.rs/\Sx mc.rs r/\r.th= .tup [-"asks",-[!u,q]]/\DS u d=v_/\∀H',Gw g s.run H H'->mq C CM H' g (Ao {s with run:=u_ (mc,mX mc.rs mc.own r d)} (mX mc.rs mc.own r d))->Q .non H'))
def Afy {g:Gc}{s:Gs}{mc:Mc}{r O:Rn}(h:mq C CM H g s)(hr:s.run=u_ (mc,r))(v:Mv mc H H')(hM:yU CM H' mc O):mq C CM H' g {s with run:=u_ (mc,O)}:=by
 erw[h,dx,fs,mv,av,rv,ev,e,f,i,j,k,l];rw[hr] at k;erw[k,rfl,hn,hm];erw[id hm,dm,fm,aa,ru,tv,gv,em,ac,i1,i2,i3,U,i5,i6];let n1:g.x≠mc.db:=(YF.ne e i3).symm;let n2:g.x≠mc.dg:=λz=>by rw[<-z,e,0] at U
 exact(dx,fs,mv,av,_,ev,v.kept _ _ e hn.symm n1 n2,f,i.mono v.tk,j.mono v.tk,[1:hn:hM],l.mono v.tk)
def Nj:#[C,10,a.ZK,a.ZU,["self","answer"],(zk a.qO a.qm a.qq)]:=by
 let jR:=#[Cz,T,C];let J8:=#[Ih,T];let yk:=#[OU,T,C];rw[9,T.lj,qaB]
 erw[h,U,st,v,d,rfl,hG,hn,hv,ao,[ap,aq,ho,au],h];let hs:=uF;erw[id hG,dx,fs,mv,av,rv,ev,e,f,i,j,hR,l];rw[3,%[|#[qK,#[qo,Yz,#[qQ,5,pv 0,rfl],qY],%[#[Qj,#[qE,#v[#[qE,#v[#[qE,#v[qh,#[qQ,5,pv 0,rfl]]],pv 1]]]]]|#[Qe,#[Qw,pv 0,T.qT,T.lU,jR,#v[pv 1]]]],%[#[Qe,#[Qw,#[qQ,5,pv 0,rfl],T.qt,T.iE,yk,#v[pv 1]]]|#[Qe,#[QC,pv 0,T.qT,T.mi,J8]]]]]]
 rw[0,U.x,_,dx,fs,0,e,T.qT,T.qZ,f.Qy,1,0];rcases h with⟨O,z,hz,k⟩|⟨mc,r,u,q,O,aw,ae,af,ag,aa,k⟩
 .rw[O] at hR;rw[show rv= .non from hR,0]
  refine lD (ua rfl) ?_;rw[hz] at i;obtain⟨rfl,hl⟩:=(show mv= .str z/\↑z<=Vw from i)
  let ax:↑fs<1000:=by have:=f.len;omega
  rw[0,U.x,_,dx,fs,0,e,T.qT,T.yC,f.YS,(sml rfl),λt1 ah=>?_];let m1:=qf ah (-[V.str "rule",V.str z]);let k1:Is (upd H t1 (-[V.str "rule",V.str z])) (-[-"rule",!z]) (-t1):=Is.new (_,0,QJ (),_,0,[1:hl],1) ah
  rw[0,(sml rfl),λt2 ak=>?_];let m2:=qf ak (-[V.ref t1,v]);let k2:=Is.new (ds:= [-[-"rule",!z],d]) (_,0,k1,_,0,hv.mono m1.tk,1) ak
  rw[_,(sml rfl),λt3 al=>?_];let m3:=qf al (-[V.ref t2]);let k3:=Is.new (ds:= [-[-[-"rule",!z],d]]) (_,0,k2,1) al;let s3:=(m1.trans m2).trans m3
  rw[0,U.x,_,dx,fs,1,s3 _ _ e,T.qT,T.y7,ax];let iz:Is H (!z) (!z):=[1:hl];obtain⟨p1,p2⟩:=Kx (C:=a.qO) (CM:=a.qm) (g:=U) (s:={st with ra:= [-[-[-"rule",!z],d]]}) (s3 _ _ e) (f.set_rule_asks (u:=-t3)) (by show Is _ st.mb _;rw[hz];exact iz.mono s3.tk) k3 (by show ke _ _ _ _ st.run;rw[O];rfl) (l.mono s3.tk)
  erw[id p1,ac,ad,_,_,_,_,e3,f3,_];let am:=s3.tk.trans p2.tk
  rw[0,U.x,ac,ad,1,e3,f3.meth _ (),0,U,_,v,d,1,p1,O,hn,hv.mono am,(ap,aq,p2.kept _ _ (s3 _ _ ho) ao,au),λH4 s4 v4 G4 b4=>k H4 s4 [λb ob h n _=>v4.kept b ob (p2.kept b ob (s3 b ob h) n) n:am.trans v4.tk] G4 (b4.mb,b4.ra,b4.lack,b4.rule,λrs h=>?_)]
  erw[b4.go rs h,mc,c1,c2,c3,c4];let fr:∀b,upd (upd (upd (upd H t1 (-[V.str "rule",V.str z])) t2 (-[V.ref t1,v])) t3 (-[V.ref t2])) U.x (.ins a.qO dx (iH "rule_asks" (-t3) fs)) b=U_->H b=none:=λb hb=>by
   cases hc:H b with
   |none=>rfl|some ob=>
    by_cases c:b=U.x
    .rw[c,qg,0] at hb
    .rw[p2.kept b ob (s3 b ob hc) c,0] at hb
  exact(mc,fr _ c1,fr _ c2,fr _ c3,c4)
 .rw[O] at hR;erw[hR,rfl,aB,hM];erw[id hM,dm,fm,aC,ru,tv,gv,em,ay,i1,i2,i3,i4,i5,i6];refine iU (ub (λz=>by rw[z,0])) ?_
  let aA:↑mc.own<=100:=by rw[aw];have:=Am hn;omega
  rw[0,U.x,_,dx,fs,0,e,T.qT,T.qZ,f.Qy,mc.x,dm,fm,1,em,ay.meth _ (),0,mc,r,v,u,q,d,1,hM,af,ag,hv,ae,aA,aa,λH1 v1 M1=>?_]
  .let G1:=Afy hG O v1 M1;erw[id G1,ac,ad,_,_,_,_,e3,f3,_];let hok:=L7 (own:=mc.own) ae af (by rw[ag];show decide (("asks":Str)="asks")=v_;exact ua rfl) (L8 aa)
   rw[5]
   refine(0,U.x,ac,ad,1,e3,f3.meth _ (),U,_,mc,0,G1,1,.inr hok.two,λH2 v2 G2=>k H2 [λb ob h n1 n2=>v2.kept b ob (v1.kept b ob h (n2 mc r O).1 (n2 mc r O).2.1 (n2 mc r O).2.2) n1:v1.tk.trans v2.tk] G2)
abbrev gfs (n:Str)(o t:o3):oj (Str×V):= [("name",!n),("order",-o),("made_by",.non),("rule_asks",-t),("rule_run",.non),("end",.non)]
def Lm (n:Str)(o t:o3):GFl (gfs n o t) (!n) (-o) .non (-t) .non .non:=by
 rw[1,1,1,1,1,1,?_,(by show 6<=20;decide)]
 intro m hm;simp![GMT,uH,uI,uU] at hm;rcases hm with rfl|rfl|rfl|rfl|rfl<;>rfl
abbrev s0G:Gs:=(.non,[],U_,.non)
inductive MC (C CM CO:Addr):Sp
 |mk (x dx o:Addr)(n k:Str)(sv:V)(e:D)(_:vs= [-x,!n,sv,-o])(_:H x=u_ (.ins C dx []))(_:Is H (-[!k,e]) sv)(_:nm n=v_)(_:o≠x)(_:(∃dx fs,H o=u_ (.ins CO dx fs)/\fs.lookup ("runner":Str)=U_))(_:∀H' s',(∀b ob,H b=u_ ob->b≠x->H' b=u_ ob)->Tk H H'->mq C CM H' ⟨x,o,n⟩ s'->(k="made"->s'={s0G with mb:=e})->(k≠"made"->On H ⟨x,o,n⟩ e s0G s')->Q .non H')
def Aco {x:o3}{fs:oj (Str×V)}{P:Hp->Prop}(e:H x=u_ (.ins C dx fs))(h:∀H1,H1 x=u_ (.ins C dx fs')->(∀b ob,H b=u_ ob->b≠x->H1 b=u_ ob)->Tk H H1->P H1):P (upd H x (.ins C dx fs')):=h _ qg (λb ob h n=>by rwa[qk n]) (Tk.updI e)
def Nk:#[C,10,a.JT,a.Z6,["self","name","source","order"],(MC a.qO a.qm a.qq)]:=by
 let jR:=#[Cz,T,C];rw[9,T.mT,qaU]
 erw[h,x,dx,o,n,k,sv,d,rfl,hx,aa,hn,nox,[ac,ad,ho,ae],q];let hs:=uF;rw[3,%[#[Qj,pv 1],#[Qj,pv 3],#[Qj,qY],#[Qj,#[qE,qd]],#[Qj,qY],#[Qj,qY]|#[qK,#[qo,Qn,#[qL,qJ,pv 2,qj],qh],%[|#[Qj,#[qL,qJ,pv 2,qj]]],%[|#[Qe,#[Qw,pv 0,T.qT,T.lU,jR,#v[#[qL,qJ,pv 2,qj]]]]]]]]
 rw[0,0,x,_,dx,0,hx,T.qT,T.Yn,()]
 refine Aco (P:=nP _ _ _ _) hx λH1 x1 k1 t1=>?_
 rw[5]
 refine(0,0,x,_,dx,0,x1,T.qT,T.X5,by show 1<1000;decide,?_)
 refine Aco (P:=nP _ _ _ _) x1 λH2 x2 k2 t2=>?_
 rw[5]
 refine(0,x,_,dx,0,x2,T.qT,T.yC,by show 2<1000;decide,?_)
 refine Aco (P:=nP _ _ _ _) x2 λH3 x3 k3 t3=>?_
 rw[_,sml rfl,λt ht=>?_];let nxt:=(qi x3 ht).symm;let s4:=qf ht (.tup ([]:oj V))
 rw[5]
 refine(0,x,_,dx,0,s4 _ _ x3,T.qT,T.y7,by show 3<1000;decide,?_)
 refine Aco (P:=nP _ _ _ _) (s4 _ _ x3) λH5 x5 k5 t5=>?_
 rw[5]
 refine(0,x,_,dx,0,x5,T.qT,T.qZ,by show 4<1000;decide,?_)
 refine Aco (P:=nP _ _ _ _) x5 λH6 x6 k6 t6=>?_
 rw[5]
 refine(0,x,_,dx,0,x6,T.qT,T.Q4,by show 5<1000;decide,?_)
 refine Aco (P:=λH=>_) x6 λH7 O k7 t7=>?_;let kp:∀b ob,H b=u_ ob->b≠x->H7 b=u_ ob:=λb ob h nb=>k7 b ob (k6 b ob (k5 b ob (s4 b ob (k3 b ob (k2 b ob (k1 b ob h nb) nb) nb)) nb) nb) nb;let U:=(((((t1.trans t2).trans t3).trans s4.tk).trans t5).trans t6).trans t7;let O:H7 x=u_ (.ins a.qO dx (gfs n o t)):=O;let eT:H7 t=u_ (.tup ([]:oj V)):=k7 _ _ (k6 _ _ (k5 _ _ qg nxt) nxt) nxt;let i0:Is H7 (-[]) (-t):=(t,[],1,eT,1);let G0:mq a.qO a.qm H7 ⟨x,o,n⟩ s0G:=(dx,_,_,_,_,_,O,Lm n o t,1,i0,1,1);let af:=aa.mono U;erw[af,p,ws,rfl,hp,w1,r1,rfl,[rfl,ag],w2,r2,rfl,h2,h3];rw[show r2= [] from h3,0]
 rw[0,p,_,_,0,1,SqT.of hp,1,1,0];by_cases ck:k="made"
 .refine lD (ua (by rw[ck])) (0,p,_,_,0,1,SqT.of hp,1,0,x,_,dx,0,O,T.qT,T.yC,(by show 6<1000;decide),?_)
  erw[Kx (C:=a.qO) (CM:=a.qm) (g:=[x:o:n]) (s:={s0G with mb:=d}) O ((Lm n o t).set_made_by (u:=w2)) h2 i0 rfl rfl,p1,p2]
  exact q _ _ (λb ob h nb=>p2.kept b ob (kp b ob h nb) nb) (U.trans p2.tk) p1 (λ_=>rfl) λz=>A9 ck z
 .refine iU (ub (λz=>ck (V.str.inj z))) ?_
  rw[0,x,dx,0,O,(Lm n o t).meth _ (),0,p,_,_,0,1,SqT.of hp,1,[x:o:n],s0G,w2,d,1,G0,1,hn,h2,(ac,ad,kp _ _ ho nox,ae),λH8 s8 v8 G8 b8=>q H8 s8 (λb ob h nb=>v8.kept b ob (kp b ob h nb) nb) (U.trans v8.tk) G8 (λz=>A9 z ck) λ_=>(b8.mb,b8.ra,b8.lack,b8.rule,λrs h=>?_)]
  erw[b8.go rs h,mc,c1,c2,c3,c4];let fr:∀b,H7 b=U_->H b=none:=λb hb=>by
   cases hc:H b with
   |none=>rfl|some ob=>
    by_cases c:b=x
    .rw[c,O,0] at hb
    .rw[kp b ob hc c,0] at hb
  exact(mc,fr _ c1,fr _ c2,fr _ c3,c4)
abbrev xJ:D->D
 | .non=>-[-"lack"]| .tup [!k,e]=>if k="leaf" then .tup [-"value",e] else .non|_=> .non
abbrev QR:D->D
 | .tup [!k,e]=>if k="said" then .tup [-"value",e] else -[!k,e]|d=>d
inductive S7:Sp
 |mk (v:V)(d:D)(_:vs= [v])(_:Is H d v)(_:(d= .non\/∃k e,d=-[!k,e]))(_:∀u H',ie H H'->Is H' (xJ d) u->Q u H')
inductive MJ:Sp
 |mk (v:V)(k:Str)(e:D)(_:vs= [v])(_:Is H (-[!k,e]) v)(_:∀u H',ie H H'->Is H' (QR (-[!k,e])) u->Q u H')
def Nt:#[T,1,a.w9,a.WK,["end"],MJ]:=by
 rw[9,T.ni,sO]
 erw[h,v,k,e,rfl,U,q];let hs:=uF;let O:=U;erw[U,p,ws,rfl,hp,w1,r1,rfl,[rfl,aa],w2,r2,rfl,h2,h3];rw[show r2= [] from h3,0]
 rw[3,%[|#[qp,#[yd,#[qo,Qn,#[qL,qJ,pv 0,qj],qh],#[qE,#v[qh,#[qL,qJ,pv 0,qj]]],pv 0]]]]
 rw[0,p,_,_,0,1,SqT.of hp,1,1,0];by_cases c:k="said"
 .refine lD (ua (by rw[c])) (0,p,_,_,0,1,SqT.of hp,1,(sml rfl),λt ht=>?_)
  refine q _ _ (qf ht _) ?_;unfold QR
  try dsimp only
  rw[A6 c];exact Is.new (_,0,QJ (),_,0,h2,1) ht
 .refine iU (ub (λz=>c (V.str.inj z))) [0:q _ H (ie.refl _) ?_];unfold QR
  try dsimp only
  rw[A4 c];exact O
def Aa3:#[T,1,a.Jj,a.Jf,["source"],S7]:=by
 rw[9,T.lY,zU]
 erw[h,v,d,rfl,U,hd,q];let hs:=uF;rw[3,%[#[qK,#[qo,Yz,pv 0,qY],%[|#[qp,#[qE,#v[qh]]]],qu]|#[qp,#[yd,#[qo,Qn,#[qL,qJ,pv 0,qj],qh],#[qE,#v[qh,#[qL,qJ,pv 0,qj]]],qY]]]]
 rw[0,1,0];rcases hd with rfl|⟨k,e,rfl⟩
 .rw[show v= .non from U,0]
  refine lD (ua rfl) [(sml rfl):λt O=>?_];exact q _ _ (qf O _) (Is.new (_,0,QJ (),1) O)
 .erw[U,p,ws,rfl,hp,w1,r1,rfl,[rfl,aa],w2,r2,rfl,h2,h3];rw[show r2= [] from h3,0]
  refine iU (ub (λz=>by rw[z,0])) ?_
  rw[0,p,_,_,0,1,SqT.of hp,1,1,0];by_cases c:k="leaf"
  .refine lD (ua (by rw[c])) (0,p,_,_,0,1,SqT.of hp,1,(sml rfl),λt O=>?_)
   refine q _ _ (qf O _) ?_;unfold xJ
   try dsimp only
   rw[A6 c];exact Is.new (_,0,QJ (),_,0,h2,1) O
  .refine iU (ub (λz=>c (V.str.inj z))) (q _ H (ie.refl _) ?_);unfold xJ
   try dsimp only
   rw[A4 c];exact(rfl:V.non=V.non)
end
structure Sy where
 G:Type
 fin:G->Bool
 want:G->om Str
 own:G->G
 tk:G->om D->G
 stuck:G->Str->G
 said:G->om D
 g0:Str->om G
 once:Str->om D
 lft:G->Nat
 M:Nat
 ns:oj Str
structure Sy.Ok (Y:Sy):Prop where
 fs:∀g m,Y.fin (Y.stuck g m)=v_
 ss:∀g m,Y.said (Y.stuck g m)=U_
 sf:∀g v,Y.said g=u_ v->Y.fin g=v_
 lo:∀g,Y.fin g=Vt->Y.want g=U_->Y.lft (Y.own g)<Y.lft g
 lt:∀g m a,Y.fin g=Vt->Y.want g=u_ m->Y.lft (Y.tk g a)<Y.lft g
 lk:∀g m,Y.fin g=Vt->Y.lft (Y.stuck g m)<Y.lft g
 l0:∀m g,Y.g0 m=u_ g->Y.lft g<=Y.M
 gn:∀m g,Y.g0 m=u_ g->m>Y.ns
namespace Sy
variable {Y:Sy}
nonrec abbrev Orc:=Str->om (om D)
abbrev step (Y:Sy)(f:Orc)(g:Y.G):Y.G:=if Y.fin g=v_ then g else match Y.want g with
 |none=>Y.own g|some m=>match f m with
  |some a=>Y.tk g a|none=>Y.stuck g m
abbrev it (Y:Sy)(f:Orc):Nat->Y.G->Y.G
 |0,g=>g|k+1,g=>it Y f k (step Y f g)
def ww {f:Orc}{g:Y.G}(h:Y.fin g=v_):step Y f g=g:=by unfold step;rw[A6 h]
def ZI {f:Orc}{g:Y.G}(h:Y.fin g=v_):∀k,it Y f k g=g
 |0=>rfl|k+1=>by show it Y f k (step Y f g)=g;rw[ww h];exact ZI h k
def kr {f:Orc}:∀(k j:Nat) (g:Y.G),it Y f (k+j) g=it Y f j (it Y f k g)
 |0,j,g=>by rw[HY];rfl|k+1,j,g=>by
  rw[Nat.add_right_comm];show it Y f (k+j) (step Y f g)=_;rw[kr k j]
  rfl
def it_snoc {f:Orc}(k:Nat)(g:Y.G):it Y f (k+1) g=step Y f (it Y f k g):=kr k 1 g
def Cg (h:Y.Ok){f:Orc}{g:Y.G}(O:Y.fin g=Vt):Y.lft (step Y f g)<Y.lft g:=by
 unfold step;rw[O,A4 uh];cases U:Y.want g with
 |none=>exact h.lo g O U|some m=>
  show Y.lft (match f m with|some a=>Y.tk g a|none=>Y.stuck g m)<_
  cases f m with
  |some a=>exact h.lt g m a O U|none=>exact h.lk g m O
def it_end (h:Y.Ok){f:Orc}:∀(k:Nat) (g:Y.G),Y.lft g<=k->Y.fin (it Y f k g)=v_
 |0,g,hl=>by
  show Y.fin g=v_;cases O:Y.fin g with
  |true=>rfl|false=>have:=Cg (f:=f) h O;omega
 |k+1,g,hl=>by
  show Y.fin (it Y f k (step Y f g))=v_;cases O:Y.fin g with
  |true=>rw[ww O,ZI O];exact O|false=>exact it_end h k _ (by have:=Cg (f:=f) h O;omega)
variable {j:Nat}
def it_one {f:Orc}{g:Y.G}{k:Nat}(O:Y.fin (it Y f k g)=v_)(U:Y.fin (it Y f j g)=v_):it Y f k g=it Y f j g:=by
 rcases Fg k j with h|h
 .erw[tq h,d,rfl];rw[kr,ZI O]
 .erw[tq h,d,rfl];rw[kr,ZI U]
def BK (h:Y.Ok){f f':Orc}(hm:∀m a,f m=u_ a->f' m=u_ a):∀(k:Nat) (g:Y.G),it Y f' k g=it Y f k g\/((∀j,it Y f j (it Y f k g)=it Y f k g)/\Y.said (it Y f k g)=U_)
 |0,g=> .inl rfl|k+1,g=>by
  show it Y f' k (step Y f' g)=it Y f k (step Y f g)\/_;by_cases c:step Y f' g=step Y f g
  .rw[c];exact BK h hm k _
  .right;let U:Y.fin g=false:=by
    cases U:Y.fin g with
    |false=>rfl|true=>exact A9 (by rw[ww U,ww U]) c
   let e:∃m,step Y f g=Y.stuck g m:=by
    unfold step at c⊢;rw[U,A4 uh] at c⊢;rw[A4 uh] at c;cases hw:Y.want g with
    |none=>rw[hw] at c;exact A9 rfl c|some m=>
     rw[hw] at c;simp only at c⊢;cases O:f m with
     |none=>exact[m:1]|some a=>rw[O,hm m a O] at c;exact A9 rfl c
   erw[e,m,e];let e2:it Y f (k+1) g=Y.stuck g m:=by
    show it Y f k (step Y f g)=_;rw[e];exact ZI (h.fs g m) k
   rw[e2];exact[ZI (h.fs g m):h.ss g m]
def W7 (h:Y.Ok){f f':Orc}(hm:∀m a,f m=u_ a->f' m=u_ a){k:Nat}{g:Y.G}{v:D}(O:Y.said (it Y f k g)=u_ v):it Y f' k g=it Y f k g:=by
 rcases BK h hm k g with e|⟨_,e⟩
 .exact e
 .rw[O,0] at e
abbrev Fh (Y:Sy):Nat->Orc
 |0,m=>match Y.g0 m with
  |none=>u_ (Y.once m)|some _=>U_
 |h+1,m=>match Y.g0 m with
  |none=>u_ (Y.once m)|some g=>(Y.said (it Y (Fh Y h) Y.M g)).map u_
variable {m:Str}
def XH (h:Y.g0 m=U_):∀k,Fh Y k m=u_ (Y.once m)
 |0=>by simp![Fh,h]|k+1=>by simp![Fh,h]
def KJ {g:Y.G}(h:Y.g0 m=u_ g)(k:Nat):Fh Y (k+1) m=(Y.said (it Y (Fh Y k) Y.M g)).map some:=by simp![Fh,h]
def Wz {g:Y.G}(h:Y.g0 m=u_ g):Fh Y 0 m=none:=by simp![Fh,h]
def Me (h:Y.Ok):∀(k:Nat) (m:Str) (a:om D),Fh Y k m=u_ a->Fh Y (k+1) m=u_ a
 |0,m,a,e=>by
  cases O:Y.g0 m with
  |none=>rw[XH O] at e⊢;exact e|some g=>rw[Wz O,0] at e
 |k+1,m,a,e=>by
  cases O:Y.g0 m with
  |none=>rw[XH O] at e⊢;exact e|some g=>
   rw[KJ O] at e⊢;cases U:Y.said (it Y (Fh Y k) Y.M g) with
   |none=>rw[U,0] at e|some v=>
    rw[W7 h (Me h k) U];exact e
def Ach (h:Y.Ok){k:Nat}(O:k<=j){a:om D}(e:Fh Y k m=u_ a):Fh Y j m=u_ a:=by
 erw[tq O,d,rfl]
 induction d with
 |zero=>exact e|succ d U=>exact Me h _ _ _ (U ())
open Classical in
abbrev F (Y:Sy):Orc:=λm=>if h:∃a k,Fh Y k m=u_ a then u_ (choose h) else U_
def F_iff (h:Y.Ok){a:om D}:F Y m=u_ a↔∃k,Fh Y k m=u_ a:=by
 unfold F;constructor
 .intro e;by_cases c:∃a k,Fh Y k m=u_ a
  .rw[dif_pos c] at e;have:=pX c;rwa[uJ e] at this
  .rw[dif_neg c,0] at e
 .rintro⟨k,e⟩;let c:∃a k,Fh Y k m=u_ a:=[a:k:e];rw[dif_pos c];erw[pX c,j,e2];let U:=Ach h (Nat.le_max_left k j) e;let O:=Ach h (Nat.le_max_right k j) e2;rw[U] at O;exact O.symm
def F_of (h:Y.Ok){k:Nat}{a:om D}(e:Fh Y k m=u_ a):F Y m=u_ a:=(F_iff h).mpr [k:e]
def Kf (h:Y.Ok)(O:Y.g0 m=U_):F Y m=u_ (Y.once m):=F_of h (XH O 0)
def Ea (h:Y.Ok)(g:Y.G):∃k,∀j,k<=j->step Y (Fh Y j) g=step Y (F Y) g:=by
 unfold step;by_cases U:Y.fin g=v_
 .exact⟨(0),λj _=>by rw[A6 U,A6 U]⟩
 .cases hw:Y.want g with
  |none=>exact[(0):λj _=>rfl]|some m=>
   cases O:F Y m with
   |some a=>
    erw[(F_iff h).mp O,k,e,<-⟨k,λj hj=>by simp![Ach h hj e,O]⟩]
   |none=>
    rw[_,(0),λj _=>?_];have:Fh Y j m=none:=by
     cases e:Fh Y j m with
     |none=>rfl|some a=>rw[F_of h e,0] at O
    simp![this,O]
def IY (h:Y.Ok):∀(n:Nat) (g:Y.G),∃k,∀j,k<=j->it Y (Fh Y j) n g=it Y (F Y) n g
 |0,g=>[(0):λ_ _=>rfl]|n+1,g=>by
  erw[Ea h g,k1,h1];erw[IY h n (step Y (F Y) g),k2,h2];rw[_,max k1 k2,λj O=>?_];show it Y (Fh Y j) n (step Y (Fh Y j) g)=it Y (F Y) n (step Y (F Y) g);rw[h1 j (),h2 j ()]
def F_run (h:Y.Ok){g:Y.G}(U:Y.g0 m=u_ g):F Y m=(Y.said (it Y (F Y) Y.M g)).map some:=by
 cases hs:Y.said (it Y (F Y) Y.M g) with
 |some v=>
  erw[IY h Y.M g,k,e];refine F_of h (k:=k+1) ?_;rw[KJ U,e k (Vv _),hs]
  rfl
 |none=>
  show F Y m=U_;cases e:F Y m with
  |none=>rfl|some a=>
   erw[(F_iff h).mp e,k,e];cases k with
   |zero=>rw[Wz U,0] at e|succ k=>
    rw[KJ U] at e;cases O:Y.said (it Y (Fh Y k) Y.M g) with
    |none=>rw[O,0] at e|some v=>
     rw[<-W7 h (λm a q=>F_of h q) O,hs,0] at O
abbrev Wt (Y:Sy)(n m:Str):Prop:=∃g k,Y.g0 n=u_ g/\Y.fin (it Y (F Y) k g)=Vt/\Y.want (it Y (F Y) k g)=u_ m
def DY (h:Y.Ok){n:Str}(w:Wt Y n m){k:Nat}{a:om D}(e:Fh Y k n=u_ a):∃j b,j<k/\Fh Y j m=u_ b:=by
 erw[w,g,i,hg,hf,hw];cases k with
 |zero=>rw[Wz hg,0] at e|succ k=>
  rw[_,k];rw[KJ hg] at e;cases U:Y.said (it Y (Fh Y k) Y.M g) with
  |none=>rw[U,0] at e|some v=>
   let O:=h.sf _ _ U;let eM:=W7 h (f':=F Y) (λm a q=>F_of h q) U;rcases BK h (f:=Fh Y k) (f':=F Y) (λm a q=>F_of h q) i g with ei|⟨ei,es⟩
   .rw[ei] at hf hw;cases hm:Fh Y k m with
    |some b=>exact[b:Fs k:1]|none=>
     let e1:it Y (Fh Y k) (i+1) g=Y.stuck (it Y (Fh Y k) i g) m:=by
      rw[it_snoc];unfold step;rw[hf,A4 uh,hw];simp![hm]
     let e2:Y.fin (it Y (Fh Y k) (i+1) g)=true:=by rw[e1];exact h.fs _ _
     rw[<-it_one e2 O,e1,h.ss,0] at U
   .let aa:it Y (Fh Y k) (i+Y.M) g=it Y (Fh Y k) i g:=by rw[kr];exact ei _
    let e3:it Y (Fh Y k) (Y.M+i) g=it Y (Fh Y k) Y.M g:=by rw[kr];exact ZI O i
    rw[<-e3,Re,aa,es,0] at U
inductive Wts (Y:Sy):Str->Str->Prop
 |one {n m:Str}:Wt Y n m->Wts Y n m
 |more {n m l:Str}:Wts Y n m->Wt Y m l->Wts Y n l
def Mi (h:Y.Ok){n:Str}(w:Wts Y n m):∀{k:Nat}{a:om D},Fh Y k n=u_ a->∃j b,j<k/\Fh Y j m=u_ b:=by
 induction w with
 |one w=>exact λe=>DY h w e|more _ w O=>
  intro k a e;erw[O e,j,b,hj,U];erw[DY h w U,i,c,hi,e2,<-(i,c,(),e2)]
def sT (h:Y.Ok){n:Str}(w:Wts Y n n):F Y n=none:=by
 let O:∀k a,Fh Y k n≠u_ a:=by
  intro k
  induction k using Nat.strongRecOn with
  |_ k U=>
   intro a e;erw[Mi h w e,j,b,hj,e1,<-U j hj b e1]
 cases e:F Y n with
 |none=>rfl|some a=>
  erw[(F_iff h).mp e,k,e,<-A9 e (O k a)]
structure Ss (Y:Sy) where
 stk:oj (Str×Y.G)
 don:oj (Str×Y.G)
abbrev YQ (l:oj (Str×Y.G))(m:Str):om Y.G:=(l.find? λp=>decide (p.1=m)).map (·.2)
abbrev yet (S:Ss Y)(m:Str):om (om (om D)):=if m>S.stk.map (·.1) then u_ U_ else match Y.g0 m with
 |none=>u_ (u_ (Y.once m))|some _=>(YQ S.don m).map λg=>(Y.said g).map u_
abbrev nxt (S:Ss Y):Ss Y:=match S.stk with
 | []=>S|(n,g)::r=>if Y.fin g=v_ then[r:S.don++ [(n,g)]] else match Y.want g with
  |none=>[(n,Y.own g)::r:S.don]|some m=>match yet S m with
   |some (u_ a)=>[(n,Y.tk g a)::r:S.don]|some U_=>[(n,Y.stuck g m)::r:S.don]|none=>match Y.g0 m with
    |some g'=>[(m,g')::(n,g)::r:S.don]|none=>S
abbrev nx (S:Ss Y):Nat->Ss Y
 |0=>S|k+1=>nxt (nx S k)
abbrev rest (S:Ss Y):oj Str:=Y.ns.filter λm=>decide (m∉S.stk.map (·.1))&&decide (m∉S.don.map (·.1))
abbrev lfts:oj (Str×Y.G)->Nat
 | []=>0|(_,g)::r=>Y.lft g+1+lfts r
abbrev mu (S:Ss Y):Nat:=lfts S.stk+(Y.M+2)*↑(rest S)
variable {S:Ss Y}
def zp (h:yet S m=U_):m∉S.stk.map (·.1)/\(∃g,Y.g0 m=u_ g)/\m∉S.don.map (·.1):=by
 unfold yet at h;by_cases c:m>S.stk.map (·.1)
 .rw[A6 c,0] at h
 .rw[A4 c] at h;cases O:Y.g0 m with
  |none=>rw[O,0] at h|some g=>
   rw[O] at h;simp![rC] at h;rw[_,c,[g:1],λhm=>?_];erw[Af.mp hm,p,U,rfl];let h3:(S.don.find? λq=>decide (q.1=p.1))=none:=by simpa [YQ] using h
   rw[UK] at h3;exact h3 p U (by simp)
variable {l:oj Str}
def qar {p q:Str->Bool}(hl:m>l)(hp:p m=v_)(hq:q m=Vt)(O:∀x,q x=v_->p x=v_):↑(l.filter q)<↑(l.filter p):=by
 induction l with
 |nil=>rw[hl,0]|cons x r U=>
  let le:↑(r.filter q)<=↑(r.filter p):=by
   clear U hl
   induction r with
   |nil=>exact Vv _|cons y r U=>
    rw[U8,U8];cases h1:q y with
    |true=>rw[O y h1,A6 rfl,A6 rfl];simp![uw];omega|false=>
     rw[A4 uh];split
     .simp![uw];omega
     .exact U
  rw[U8,U8];rcases Ab.mp hl with rfl|hm
  .rw[hp,hq,A6 rfl,A4 uh,uw];omega
  .have:=U hm;cases h1:q x with
   |true=>rw[O x h1,A6 rfl,A6 rfl];simp![uw];omega|false=>
    rw[A4 uh];split
    .simp![uw];omega
    .exact this
def nxt_mu (h:Y.Ok)(hs:S.stk≠ []):mu (nxt S)<mu S:=by
 erw[S,stk,don];cases stk with
 |nil=>exact A9 rfl hs|cons p r=>
  erw[p,n,g];let same:∀g',Y.lft g'<Y.lft g->mu (⟨(n,g')::r,don⟩:Ss Y)<mu ⟨(n,g)::r,don⟩:=by
   intro g' hl;show Y.lft g'+1+lfts r+(Y.M+2)*_<Y.lft g+1+lfts r+(Y.M+2)*_;let e:rest (⟨(n,g')::r,don⟩:Ss Y)=rest ⟨(n,g)::r,don⟩:=rfl;rw[e];omega
  unfold nxt;simp only;cases O:Y.fin g with
  |true=>
   rw[A6 rfl];show lfts r+(Y.M+2)*_<Y.lft g+1+lfts r+(Y.M+2)*_;let e:rest (⟨r,don++ [(n,g)]⟩:Ss Y)=rest ⟨(n,g)::r,don⟩:=by
    unfold rest
    congr 1
    funext x
    simp![uA,ur,UR,UW,uH,uI,uU,<-Bool.decide_and];rw[vc];constructor
    .rintro⟨a,b⟩;exact[λz=>z.elim (λz=>b (.inr z)) a:λz=>b (.inl z)]
    .rintro⟨a,b⟩;exact[λz=>a (.inr z):λz=>z.elim b λz=>a (.inl z)]
   rw[e];omega
  |false=>
   rw[A4 uh];cases hw:Y.want g with
   |none=>exact same _ (h.lo g O hw)|some m=>
    simp only;cases hy:yet ([(n,g)::r:don]:Ss Y) m with
    |some o=>
     cases o with
     |some a=>exact same _ (h.lt g m a O hw)|none=>exact same _ (h.lk g m O)
    |none=>
     simp only;erw[zp hy,h1,[g',U],h2];rw[U];show Y.lft g'+1+(Y.lft g+1+lfts r)+(Y.M+2)*↑(rest ([(m,g')::(n,g)::r:don]:Ss Y))<Y.lft g+1+lfts r+(Y.M+2)*↑(rest ([(n,g)::r:don]:Ss Y));let e:↑(rest (⟨(m,g')::(n,g)::r,don⟩:Ss Y))<↑(rest (⟨(n,g)::r,don⟩:Ss Y)):=by
      refine qar (m:=m) (h.gn m g' U) ?_ ?_ ?_
      .simp![uB,uT];exact[h1:h2]
      .simp
      .intro x hx;simp![uB,uT] at hx⊢;exact[λz=>hx.1 (ui _ z):hx.2]
     let l0:=h.l0 m g' U;let e2:=Nat.mul_le_mul_left (Y.M+2) (Nat.succ_le_of_lt e);rw[Nat.mul_succ] at e2;omega
abbrev Chn (Y:Sy):oj (Str×Y.G)->Prop
 | []=>True|(n,g)::r=>(∃s k,Y.g0 n=u_ s/\g=it Y (F Y) k s)/\Chn Y r/\∀p r',r=p::r'->Y.fin p.2=Vt/\Y.want p.2=u_ n
structure SOk (n0:Str)(S:Ss Y):Prop where
 chn:Chn Y S.stk
 nd:(S.stk.map (·.1)++S.don.map (·.1)).Nodup
 don:∀p>S.don,∃s,Y.g0 p.1=u_ s/\p.2=it Y (F Y) Y.M s
 bot:(S.stk.map (·.1)).getLast? =u_ n0\/S.stk= []/\(S.don.map (·.1)).getLast? =u_ n0
def AbV {n:Str}{g:Y.G}:∀{r:oj (Str×Y.G)}{m:Str},Chn Y ((n,g)::r)->m>r.map (·.1)->Wts Y m n:=by
 intro r
 induction r generalizing n g with
 |nil=>intro m _ h;rw[h,0]|cons p r ih=>
  intro m hc hm;erw[p,O,g'];erw[hc,_,U,c3];erw[c3 (O,g') r rfl,f1,w1];erw[U.1,s,k,hs,hk];let w:Wt Y O n:=(s,k,hs,by rwa[<-hk],by rwa[<-hk])
  rcases Ab.mp hm with rfl|hm
  .exact .one w
  .exact .more (ih U hm) w
def KI {l:oj (Str×Y.G)}{g:Y.G}(h:YQ l m=u_ g):(m,g)>l:=by
 unfold YQ at h;cases e:l.find? λp=>decide (p.1=m) with
 |none=>rw[e,0] at h|some p=>
  rw[e] at h;rw[uJ h,0];have:=tP e;let hm:p.1=m:=uq this;rw[<-hm];exact Up e
def AdA (h:Y.Ok){n0:Str}(hs:SOk n0 S):SOk n0 (nxt S):=by
 erw[S,stk,don];cases stk with
 |nil=>exact hs|cons p r=>
  erw[p,n,g];erw[hs,chn,nd,O,bot];erw[chn,[s,k,U,hk],c2,c3];let on:∀g',Y.fin g=Vt->step Y (F Y) g=g'->SOk n0 (⟨(n,g')::r,don⟩:Ss Y):=by
   intro g' hf e;rw[_,[(s,k+1,U,?_):c2:c3],nd,O,.inl ?_]
   .rw[it_snoc,<-hk,e]
   .rcases bot with b|⟨b,_⟩
    .exact b
    .rw[b,0]
  unfold nxt;simp only;cases hf:Y.fin g with
  |true=>
   rw[A6 rfl];rw[_,c2,?_,λq hq=>?_,?_]
   .show(r.map (·.1)++(don++ [(n,g)]).map (·.1)).Nodup;let ac:(n::(r.map (·.1)++don.map (·.1))).Nodup:=nd;rw[uA,<-Ut];show((r.map (·.1)++don.map (·.1))++ [n]).Nodup;exact(List.perm_append_comm (l₁:= [n]) (l₂:=r.map (·.1)++don.map (·.1))).nodup_iff.mp ac
   .rcases Ae.mp hq with hq|hq
    .exact O q hq
    .rw[Ac.mp hq,0];rw[_,s,U];show g=_;rw[hk];refine it_one (by rwa[<-hk]) (it_end h _ _ (h.l0 n s U))
   .rcases bot with b|⟨b,_⟩
    .cases r with
     |nil=>
      right;rw[1];let hn:n=n0:=by simpa using b
      show((don++ [(n,g)]).map (·.1)).getLast? =u_ n0;rw[uA,hn];simp
     |cons q r=>
      left
      simpa [Vj] using b
    .rw[b,0]
  |false=>
   rw[A4 uh];let aa:step Y (F Y) g=match Y.want g with
     |none=>Y.own g|some m=>match F Y m with
      |some a=>Y.tk g a|none=>Y.stuck g m:=by
    unfold step;rw[hf,A4 uh]
   cases hw:Y.want g with
   |none=>exact on _ hf (by rw[aa,hw])|some m=>
    rw[hw] at aa;simp only at aa⊢;cases hy:yet ([(n,g)::r:don]:Ss Y) m with
    |some o=>
     let hF:F Y m=o:=by
      unfold yet at hy;by_cases c:m>((n,g)::r).map (·.1)
      .rw[A6 c,0] at hy;let w:Wt Y n m:=(s,k,U,by rwa[<-hk],by rwa[<-hk])
       rcases Ab.mp c with rfl|hm
       .exact sT h (.one w)
       .exact sT h (.more (AbV (g:=g) [(s,k,U,hk):c2:c3] hm) w)
      .rw[A4 c] at hy;cases hg:Y.g0 m with
       |none=>
        rw[hg,0] at hy;exact Kf h hg
       |some gm=>
        rw[hg] at hy;simp only at hy;cases hd:YQ don m with
        |none=>rw[hd,0] at hy|some gd=>
         rw[hd,0] at hy;erw[O _ (KI hd),s',e1,e2];rw[hg,0] at e1;let e3:gd=it Y (F Y) Y.M gm:=e2;rw[F_run h hg,e3]
     cases o with
     |some a=>exact on _ hf (by rw[aa,hF])|none=>exact on _ hf (by rw[aa,hF])
    |none=>
     simp only;erw[zp hy,h1,[g',hg],h2];rw[hg];rw[_,[(g',(0),hg,1):[(s,k,U,hk):c2:c3]:λq r' e=>?_],?_,O,.inl ?_]
     .rw[e,0];exact[hf:hw]
     .show(m::(((n,g)::r).map (·.1)++don.map (·.1))).Nodup;rw[Ue];rw[_,λz=>?_,nd];rcases Ae.mp z with z|z
      .exact h1 z
      .exact h2 z
     .rcases bot with b|⟨b,_⟩
      .show(m::n::r.map (·.1)).getLast? =u_ n0;rwa[Vj]
      .rw[b,0]
def nx_ok (h:Y.Ok){n0:Str}{S:Ss Y}(O:SOk n0 S):∀k,SOk n0 (nx S k)
 |0=>O|k+1=>AdA h (nx_ok h O k)
def BD {S:Ss Y}{k:Nat}(h:(nx S k).stk= []):∀j,nx S (k+j)=nx S k
 |0=>rfl|j+1=>by
  show nxt (nx S (k+j))=_;rw[BD h j];unfold nxt;rw[h]
def nx_one {k:Nat}(O:(nx S k).stk= [])(U:(nx S j).stk= []):nx S k=nx S j:=by
 rcases Fg k j with h|h
 .erw[tq h,d,rfl,<-(BD O d).symm]
 .erw[tq h,d,rfl,<-BD U d]
abbrev S0 (Y:Sy)(n:Str):Ss Y:=match Y.g0 n with
 |none=>[[]:[]]|some g=>[[(n,g)]:[]]
def S0_ok {n:Str}{g:Y.G}(O:Y.g0 n=u_ g):SOk n (S0 Y n):=by
 unfold S0;rw[O];exact(⟨(g,(0),O,1),trivial,λ_ _ e=>by rw[e,0]⟩,by simp,λ_ h=>(by rw[h,0]),.inl rfl)
end Sy
end K20
namespace K20
open PySem L2 PyProof.Rows
abbrev ThS (d:D):Prop:=(∃z,d=flt z)\/(∃e,d= .tup [-"said",e]/\isT e=v_)\/∃(u z:Str),d= .tup [-"asks",-[!u,!z]]/\isT (!z)=v_/\(u="names"\/(u="thing"\/u="has")/\nm z=v_)
def Lc {d:D}(h:mO d=v_):∃z,d= .str z/\nm z=true:=by
 cases d with
 |str z=>exact[z:1:h]|_=>rw[h,0]
variable {own:Str}{n:Nat}{r:Rw}{e:D}
def Aav {B:Str->D}{p:Int}(hr:jH n 300 r)(h:Tr B)(O:lE own r B p= .stop e):ThS e:=by
 unfold lE at O;erw[id hr,ks,hk,hp];erw[r,U,ps];by_cases c1:U>MKR
 .rw[A6 c1] at O;simp only at O;generalize made U B own ps=dm at O;let aa:(if isT dm=v_ then Out.go (iT B (b0 ps) dm) (p+1) else .stop (flt "big"))= .stop e->ThS e:=by
   intro hq;by_cases c:isT dm=v_
   .rw[A6 c,0] at hq
   .rw[A4 c,0] at hq;exact .inl ⟨0⟩
  cases dm with
  |non=>rw[O,0];exact .inl ⟨0⟩|_=>exact aa O
 rw[A4 c1] at O;by_cases c2:U>ASK
 .rw[A6 c2,0] at O;erw[WP _ hk c2,_,_,ek];simp only at ek;subst ek;erw[wY hp,z0,z1,rfl,h0,h1];let hT:=h z1 h1;show ThS (nV U (B z1));unfold nV;by_cases d1:U="names"
  .rw[A6 d1];by_cases d2:isStr (B z1)=v_
   .rw[A6 d2];obtain⟨z,ez⟩:∃z,B z1= !z:=by
     cases hb:B z1 with
     |str z=>exact[z:1]|_=>rw[hb,0] at d2
    rw[ez] at hT⊢;exact .inr (.inr (_,z,1,hT,.inl rfl))
   .rw[A4 d2];exact .inl ⟨0⟩
  .rw[A4 d1];by_cases d2:mO (B z1)=v_
   .rw[A6 d2];erw[Lc d2,z,ez,hz];rw[ez] at hT⊢;refine .inr (.inr (_,z,1,hT,.inr [?_:hz]));split
    .exact .inl rfl
    .exact .inr rfl
   .rw[A4 d2];exact .inl ⟨0⟩
 rw[A4 c2] at O;by_cases c3:U="say"
 .rw[A6 c3,0] at O;subst c3;let ek:=BM _ hk rfl;simp only at ek;subst ek;erw[Ae6 hp,z0,rfl,h0,<-.inr (.inl [0:h z0 h0])]
 rw[A4 c3] at O;by_cases c4:U="fault"
 .rw[A6 c4,0] at O;exact .inl ⟨0⟩
 rw[A4 c4] at O;by_cases c5:Sd U B ps=v_
 .rw[A6 c5,0] at O
 .rw[A4 c5,0] at O
def Bl {rs:oj Rw}{own:Str}(U:yg rs):∀(f:Nat) (B:Str->D) (p:Int) (n:Nat) (gs:oj D),Tr B->1<=p->p<=↑rs+1->ThS (lC rs own gs f B p n).th
 |0,B,p,n,gs,hT,h1,h2=>by
  show ThS (if GT.gt p (↑rs) then flt "silent" else flt "long")
  split<;>exact .inl ⟨0⟩
 |f+1,B,p,n,gs,hT,h1,h2=>by
  unfold lC;by_cases c:GT.gt p (↑rs)
  .rw[A6 c];exact .inl ⟨0⟩
  .rw[A4 c];let O:=U.ok _ (qan h1 ())
   let hok:=Bp (own:=own) O hT h1 ()
   cases hO:lE own (Q0 rs p) B p with
   |go B' p'=>
    rw[hO] at hok;exact Bl U f B' p' (n+1) gs hok.1 hok.2.1 hok.2.2
   |stop e=>exact Aav O hT hO
variable {rs:oj Rw}
def Ab1 (O:yg rs){r:Rn}{a:D}(h:Sx rs r)(U:QH r.th=v_)(ha:Ju a):ThS (mX rs own r a).th:=by
 erw[h.ask U,k1,_];unfold mX;cases hn:xw a with
 |true=>rw[A6 rfl];exact .inl ⟨0⟩|false=>
  rw[A4 uh];let hT:isT a=true:=by
   rcases ha with rfl|ha
   .rw[hn,0]
   .exact ha
  exact Bl O _ _ _ _ _ (qaC h.tr hT) (by have:=h.p1;omega) ()
def OD {rs:oj Rw}{own:Str}:∀(f:Nat) (B:Str->D) (p:Int) (n:Nat) (gs:oj D),QH (lC rs own gs f B p n).th=v_->1<=f/\n<=(lC rs own gs f B p n).n
 |0,B,p,n,gs,h=>by
  let h:QH (if GT.gt p (↑rs) then flt "silent" else flt "long")=true:=h
  split at h<;>exact A9 h ()
 |f+1,B,p,n,gs,h=>by
  rw[_,()]
  unfold lC at h⊢;by_cases c:GT.gt p (↑rs)
  .rw[A6 c] at h;exact A9 h (show¬QH (flt "silent")=v_ by rw[12])
  .rw[A4 c] at h⊢;cases U:lE own (Q0 rs p) B p with
   |go O p'=>
    rw[U] at h;have:=(OD f O p' (n+1) gs h).2;show n<=(lC rs own gs f O p' (n+1)).n;omega
   |stop e=>
    show n<=(if QH e=v_ then n else n+1)
    split<;>omega
def Aeg {r:Rn}{a:D}(h:QH (mX rs own r a).th=v_):r.n+1<300/\r.n+1<=(mX rs own r a).n:=by
 unfold mX at h⊢;cases hn:xw a with
 |true=>rw[hn,A6 rfl] at h;exact A9 h (show¬QH (flt "lack")=v_ by rw[12])|false=>
  rw[hn,A4 uh] at h;rw[A4 uh];have:=OD _ _ _ _ _ h;exact[():this.2]
structure Gp where
 n:Str
 mb:D
 ra:oj D
 run:om (oj Rw×Rn)
 en:om D
abbrev mC (r:Rn):om D:=if QH r.th=v_ then U_ else u_ r.th
abbrev nw (g:Gp)(d:D):Gp:=if xw d=v_ then{g with en:=u_ (flt "lack")} else match yf d with
 |none=>{g with en:=u_ (flt "rule")}
 |some rs=>{g with run:=u_ (rs,R0 rs g.n),en:=mC (R0 rs g.n)}
abbrev yS (g:Gp)(d:D):Gp:=match g.run with
 |none=>nw {g with ra:= [-[-[-"rule",g.mb],d]]} d
 |some (rs,r)=>{g with run:=u_ (rs,mX rs g.n r d),en:=mC (mX rs g.n r d)}
abbrev xy (g:Gp):D:=match g.run with
 |none=>-[-"rule",g.mb]|some (_,r)=>Wn r.th
abbrev Xi (qs:#[23])(k z:Str):D:=if k="has" then .str (if z>#[15] then "yes" else "no") else Be (Bf [] ((#[15]).filter λy=>VS y z))
abbrev CS (k:Str):Bool:=decide (k="has")||decide (k="names")
abbrev yV (g:Gp):om Str:=match xy g with
 | .tup [!k,!z]=>if CS k=v_ then U_ else u_ z|_=>U_
abbrev nZ (qs:#[23])(g:Gp):Gp:=match xy g with
 | .tup [!k,!z]=>yS g (Xi qs k z)|_=>{g with en:=u_ (flt "name")}
abbrev Xp:D->om D
 | .tup [!k,v]=>if k="said" then u_ v else U_|_=>U_
abbrev j7 (g:Gp):om D:=g.en.bind Xp
abbrev D9 (g:Gp)(m:Str):Gp:={g with en:=u_ (-[-"stuck",!m])}
abbrev se (g:Gp):Nat:=match g.en with
 |some _=>0|none=>match g.run with
  |none=>302|some (_,r)=>1+(300-r.n)
abbrev g0D (m:Str):D->om Gp
 | .tup [!k,e]=>if k="leaf" then U_ else if k="made" then u_ (m,e,[],U_,U_) else u_ (nw (m,.non,[],U_,U_) e)|_=>U_
abbrev Ai:D->om D
 | .tup [.str _,e]=>u_ e|_=>U_
abbrev SyP (qs:#[23]):Sy:=⟨Gp,λg=>g.en.isSome,yV,nZ qs,λg a=>yS g (a.getD .non),D9,j7,λm=>g0D m (qH qs m),λm=>Ai (qH qs m),se,(302),#[15]⟩
variable {g:Gp}
def IK (h:g.run=U_)(d:D):g.en=U_->se (nw g d)<302:=by
 intro O;unfold nw;split
 .show(0:Nat)<302;omega
 .cases U:yf d with
  |none=>show(0:Nat)<302;omega|some rs=>
   show(match mC (R0 rs g.n) with|some _=>0|none=>1+(300-(R0 rs g.n).n))<302
   cases mC (R0 rs g.n) with
   |some d=>show(0:Nat)<302;omega|none=>show(1+(300-(R0 rs g.n).n):Nat)<302;omega
def qam (O:g.en=U_)(d:D):se (yS g d)<se g:=by
 unfold yS;cases U:g.run with
 |none=>
  let e:se g=302:=by unfold se;rw[O,U]
  rw[e];exact IK (g:=(g.n,g.mb,[-[-[-"rule",g.mb],d]],U_,g.en)) rfl d O
 |some p=>
  erw[p,rs,r];let e:se g=1+(300-r.n):=by unfold se;rw[O,U]
  rw[e];show(match mC (mX rs g.n r d) with|some _=>0|none=>1+(300-(mX rs g.n r d).n))<_
  unfold mC;by_cases c:QH (mX rs g.n r d).th=v_
  .rw[A6 c];have:=Aeg c;show 1+(300-(mX rs g.n r d).n)<1+(300-r.n);omega
  .rw[A4 c];show 0<1+(300-r.n);omega
variable {qs:#[23]}{z:Str}
def Yi (h:z∉#[15]):qH qs z= .non:=by
 unfold qH;have:(qs.find? λp=>decide (p.1=z))=none:=by
  rw[UK];intro p O e;exact h (Af.mpr [p:O:uq e])
 rw[this]
 rfl
def QK (qs:#[23]):(SyP qs).Ok where
 fs:=λ_ _=>rfl
 ss:=λg m=>by
  show Xp (-[-"stuck",!m])=U_;unfold Xp;exact A4 ()
 sf:=λg v h=>by
  let h:j7 g=u_ v:=h;unfold j7 at h;show g.en.isSome=v_;cases O:g.en with
  |none=>rw[O,0] at h|some d=>rfl
 lo:=λg U hw=>by
  let O:g.en=none:=by
   cases O:g.en with
   |none=>rfl|some d=>have U:g.en.isSome=false:=U;rw[O,0] at U
  show se (nZ qs g)<se g;unfold nZ;split
  .exact qam O _
  .have:0<se g:=by
    unfold se;rw[O];simp only;split<;>omega
   exact this
 lt:=λg m a U hw=>by
  let O:g.en=none:=by
   cases O:g.en with
   |none=>rfl|some d=>have U:g.en.isSome=false:=U;rw[O,0] at U
  exact qam O _
 lk:=λg m U=>by
  let O:g.en=none:=by
   cases O:g.en with
   |none=>rfl|some d=>have U:g.en.isSome=false:=U;rw[O,0] at U
  show 0<se g;unfold se;rw[O];simp only;split<;>omega
 l0:=λm g h=>by
  let h:g0D m (qH qs m)=u_ g:=h;show se g<=302;unfold g0D at h;split at h
  .split at h
   .rw[h,0]
   .split at h
    .rw[h,0];exact Vv _
    .rw[h,0];exact vB (IK rfl _ rfl)
  .rw[h,0]
 gn:=λm g h=>by
  let h:g0D m (qH qs m)=u_ g:=h;show m>#[15];by_cases c:m>#[15]
  .exact c
  .rw[Yi c,0] at h
abbrev EnS (d:D):Prop:=(∃z,d=flt z)\/(∃e,d= .tup [-"said",e]/\isT e=v_)\/∃z,d=-[-"stuck",!z]
structure GI (g:Gp):Prop where
 n:nm g.n=v_
 run:∀rs r,g.run=u_ (rs,r)->yg rs/\Sx rs r/\ThS r.th/\(g.en=U_->QH r.th=v_)
 no:g.run=U_->g.en=U_->∃z,g.mb= .str z/\nm z=v_
 en:∀d,g.en=u_ d->EnS d
 ra:nL g.ra=v_/\dpL g.ra<=30/\↑g.ra<=1
def Ad2 {r:Rn}(h:ThS r.th){d:D}(e:mC r=u_ d):EnS d:=by
 unfold mC at e;by_cases c:QH r.th=v_
 .rw[A6 c,0] at e
 .rw[A4 c,0] at e;rcases h with h|h|⟨u,z,h,_⟩
  .exact .inl h
  .exact .inr (.inl h)
  .rw[h] at c;exact A9 (show decide (("asks":Str)="asks")=v_ from ua rfl) c
def LB {r:Rn}(e:mC r=U_):QH r.th=true:=by
 unfold mC at e;by_cases c:QH r.th=v_
 .exact c
 .rw[A4 c,0] at e
def Aek {n:Str}(h:yg rs):ThS (R0 rs n).th:=Bl h 300 B0 1 0 [] Acj () (by have:=h.n0;omega)
def Sh (d:D)(h1:nm g.n=v_)(h2:g.run=U_)(h3:nL g.ra=v_/\dpL g.ra<=30/\↑g.ra<=1):GI (nw g d):=by
 unfold nw;split
 .exact(h1,λrs r e=>(by rw[show g.run=u_ (rs,r) from e,0] at h2),(λ_ e=>by rw[e,0]),λd e=>by rw[e,0];exact .inl ⟨0⟩,h3)
 .cases U:yf d with
  |none=>exact(h1,λrs r e=>(by rw[show g.run=u_ (rs,r) from e,0] at h2),(λ_ e=>by rw[e,0]),λd e=>by rw[e,0];exact .inl ⟨0⟩,h3)|some rs=>
   let O:=(sU U).2;exact(h1,λaa r e=>by rw[e,0];exact(O,Ael O,Aek O,λe=>LB e),λe _=>(by rw[e,0]),λd e=>Ad2 (Aek O) e,h3)
def qaD (h:GI g)(U:g.en=U_){d:D}(ha:Ju d):GI (yS g d):=by
 unfold yS;cases hr:g.run with
 |none=>
  erw[h.no hr U,z,hz,_];refine Sh d h.n rfl ?_;let O:nD d=v_/\dp d<=12:=by
   rcases ha with rfl|ha
   .exact⟨1,by simp[dp]⟩
   .exact[ko (Q3 ha):Jy ha]
  rw[hz];rw[_,?_,?_,Vv _]
  .simp![nL,nD,O.1,Ux]
  .simp![dpL,dp];have:=O.2;omega
 |some p=>
  erw[p,rs,r];erw[h.run rs r hr,k1,k2,k3,k4];let hs:=Ab1 (own:=g.n) k1 k2 (k4 U) ha;exact(h.n,λaa r' e=>by rw[e,0];exact(k1,L7 k1 k2 (k4 U) ha,hs,λe=>LB e),λe _=>(by rw[e,0]),λd e=>Ad2 hs e,h.ra)
def Lk (h:GI g)(m:Str):GI (D9 g m):=(h.n,λrs r e=>((h.run rs r e).1,(h.run rs r e).2.1,(h.run rs r e).2.2.1,(λz=>by rw[z,0])),(λ_ e=>by rw[e,0]),λd e=>by rw[e,0];exact .inr (.inr [m:1]),h.ra)
set_option tactic.hygienic true in
def sQ:∀(zs O:oj Str),isT (Be O)=v_->isT (Be (Bf O zs))=v_
 | [],O,h=>h|z::r,O,h=>by
  unfold Bf;split
  .rename_i c;exact sQ r _ c
  .exact h
def BG (U:yb qs){k:Str}(z:Str)(hk:CS k=v_):isT (Xi qs k z)=v_/\DS k (Xi qs k z)=true:=by
 unfold Xi;by_cases c:k="has"
 .rw[A6 c,c];split<;>exact[():()]
 .rw[A4 c];let O:isT (Be (Bf [] ((#[15]).filter λy=>VS y z)))=true:=sQ _ [] ()
  rw[_,O];let hr:NM (Be (Bf [] ((#[15]).filter λy=>VS y z)))=true:=by
   show List.all (HK D.str _) mO=v_;rw[U9];intro x hx;erw[Af.mp hx,y,hy,rfl];rcases Cl _ _ _ hy with h|h
   .rw[h,0]
   .exact U.1.1.1 y (Ag.mp h).1
  unfold DS;rw[A4 (show¬xw (Be _)=v_ from uh),A6 O,A4 c,hr,Bool.or_true]
def qat (h:GI g)(he:g.en=U_)(U:yV g=U_):∃rs r k z,g.run=u_ (rs,r)/\r.th= .tup [-"asks",-[!k,!z]]/\CS k=v_/\isT (!z)=v_/\nZ qs g=yS g (Xi qs k z):=by
 unfold yV at U;cases hr:g.run with
 |none=>
  erw[h.no hr he,z,hz,_];let e:xy g=-[-"rule",!z]:=by unfold xy;rw[hr,hz]
  rw[e] at U;simp![show CS "rule"=Vt by rw[12],A4 uh] at U
  rw[U,0]
 |some p=>
  erw[p,rs,r];erw[h.run rs r hr,k1,k2,k3,k4];let O:=k4 he;rcases k3 with⟨z,e⟩|⟨d,e,_⟩|⟨u,z,e,ht,hu⟩
  .rw[e] at O;exact A9 O (by show¬decide (("fault":Str)="asks")=v_;rw[12])
  .rw[e] at O;exact A9 O (by show¬decide (("said":Str)="asks")=v_;rw[12])
  .let e2:xy g=-[!u,!z]:=by unfold xy;rw[hr];show Wn r.th=_;rw[e];rfl
   rw[e2] at U;simp only at U;cases hk:CS u with
   |false=>rw[hk,A4 uh,0] at U|true=>exact(rs,r,u,z,1,e,hk,ht,by unfold nZ;rw[e2])
variable {m:Str}
def kz (h:GI g)(he:g.en=U_)(O:yV g=u_ m):nm m=v_/\((g.run=U_/\g.mb= !m)\/∃rs r,g.run=u_ (rs,r)/\r.th=-[-"asks",-[-"thing",!m]]):=by
 unfold yV at O;cases hr:g.run with
 |none=>
  erw[h.no hr he,z,hz,hn];let e:xy g=-[-"rule",!z]:=by unfold xy;rw[hr,hz]
  rw[e] at O;simp![show CS "rule"=Vt by rw[12],A4 uh] at O
  rw[O,0];exact[hn:.inl [1:hz]]
 |some p=>
  erw[p,rs,r];erw[h.run rs r hr,k1,k2,k3,k4];let U:=k4 he;rcases k3 with⟨z,e⟩|⟨d,e,_⟩|⟨u,z,e,ht,hu⟩
  .rw[e] at U;exact A9 U (by show¬decide (("fault":Str)="asks")=v_;rw[12])
  .rw[e] at U;exact A9 U (by show¬decide (("said":Str)="asks")=v_;rw[12])
  .let e2:xy g=-[!u,!z]:=by unfold xy;rw[hr];show Wn r.th=_;rw[e];rfl
   rw[e2] at O;simp only at O;rcases hu with rfl|⟨rfl|rfl,hn⟩
   .rw[A6 (),0] at O
   .rw[A4 ()] at O
    rw[O,0];exact[hn:.inr (rs,r,1,e)]
   .rw[A6 (),0] at O
def Ll (U:yb qs)(h:GI g)(O:g.en=U_)(hw:yV g=U_):GI (nZ qs g):=by
 erw[qat (qs:=qs) h O hw,rs,r,k,z,_,_,hk,_,e];rw[e];exact qaD h O (.inr (BG U z hk).1)
def JK (U:yb qs)(h:m>#[15]):nm m=v_/\∃k e,qH qs m= .tup [!k,e]/\(k="made"->∃z,e= .str z/\nm z=v_)/\(k≠"made"->(k="leaf"\/k="rule")/\isT e=v_):=by
 let hs:=U.1.2 _ (LP U.1.1.2 h);erw[hs,[k,e,O],h2,_];let O:qH qs m=-[!k,e]:=O;let h2:Ax (qH qs m)=true:=h2;rw[O] at h2;let e1:Ax (-[!k,e])=if eqD (!k) (-"made")=v_ then mO e else(eqD (!k) (-"leaf")||eqD (!k) (-"rule"))&&isT e:=rfl
 rw[e1] at h2;let eq:∀y:Str,eqD (!k) (!y)=decide (k=y):=λy=>rfl;rw[eq,eq,eq] at h2;rw[_,U.1.1.1 m h,k,e,O,λc=>?_,λc=>?_]
 .rw[ua c,A6 rfl] at h2;exact Lc h2
 .rwa[ub c,A4 uh,uB,Tv,uT,uT] at h2
set_option tactic.hygienic true in
def AC (U:yb qs)(h:g0D m (qH qs m)=u_ g):GI g/\g.n=m:=by
 let hm:m>qs.map (·.1):=(QK qs).gn m g h;erw[JK U hm,hn,k,e,hd,h1,h2];rw[hd] at h;unfold g0D at h;simp only at h;let O:nL ([]:oj D)=v_/\dpL ([]:oj D)<=30/\↑([]:oj D)<=1:=⟨1,by simp[dpL],uN _⟩
 split at h
 .rw[h,0]
 .split at h
  .rename_i c
   rw[h,0];erw[h1 c,z,rfl,hz,<-⟨(hn,λrs r e=>(by rw[e,0]),λ_ _=>[z:1:hz],λd e=>(by rw[e,0]),O),1⟩]
  .rw[h,0];rw[_,Sh e hn rfl O];unfold nw;split
   .rfl
   .split<;>rfl
def Bk (h:GI g){v:D}(e:j7 g=u_ v):isT v=true:=by
 unfold j7 at e;cases O:g.en with
 |none=>rw[O,0] at e|some d=>
  rw[O] at e;let e:Xp d=u_ v:=e;rcases h.en d O with⟨z,rfl⟩|⟨x,rfl,U⟩|⟨z,rfl⟩
  .exact A9 e (by unfold Xp flt;simp only;rw[A4 ()];exact λh=>by rw[h,0])
  .let e3:Xp (-[-"said",x])=u_ x:=by unfold Xp;dsimp only;exact A6 rfl
   rw[e3,0] at e;exact U
  .exact A9 e (by unfold Xp;simp only;rw[A4 ()];exact λh=>by rw[h,0])
def Ou (g:Gp)(d:D):(yS g d).n=g.n:=by
 unfold yS;split
 .unfold nw;split
  .rfl
  .split<;>rfl
 .rfl
def Afj (qs:#[23])(g:Gp):(nZ qs g).n=g.n:=by
 unfold nZ;split
 .exact Ou _ _
 .rfl
abbrev SGI {qs:#[23]}(S:Sy.Ss (SyP qs)):Prop:=∀p:Str×Gp,p>S.stk\/p>S.don->GI p.2/\p.2.n=p.1
set_option tactic.hygienic true in
def Oo (hq:yb qs){S:Sy.Ss (SyP qs)}(h:SGI S){a:om D}(e:Sy.yet S m=u_ (u_ a)):Ju (a.getD .non):=by
 unfold Sy.yet at e;split at e
 .rw[e,0]
 .split at e
  .rename_i O
   rw[e,0];let O:g0D m (qH qs m)=none:=O;show Ju ((Ai (qH qs m)).getD .non);by_cases hm:m>qs.map (·.1)
   .erw[JK hq hm,hn,k,e,hd,h1,h2];rw[hd] at O⊢;unfold g0D at O;simp only at O;by_cases c:k="leaf"
    .exact .inr (h2 (by rw[c];decide+kernel)).2
    .rw[A4 c] at O;split at O<;>cases O
   .rw[Yi hm];exact .inl rfl
  .cases hd:Sy.YQ S.don m with
   |none=>rw[hd,0] at e|some g=>
    rw[hd] at e;let e:(j7 g).map u_=u_ a:=uJ e;cases U:j7 g with
    |none=>rw[U,0] at e|some v=>
     rw[U,0] at e;exact .inr (Bk (h (m,g) (.inr (Sy.KI hd))).1 U)
def Iu (hq:yb qs){S:Sy.Ss (SyP qs)}(h:SGI S):SGI (Sy.nxt S):=by
 erw[S,stk,don];cases stk with
 |nil=>exact h|cons p r=>
  erw[p,n,g];erw[h (n,g) (.inl uj),U,hn];let on:∀g':Gp,GI g'->g'.n=n->SGI #[Y,(n,g')::r,don]:=by
   intro g' h1 h2 p O;rcases O with O|O
   .rcases Ab.mp O with rfl|O
    .exact[h1:h2]
    .exact h p (.inl (ui _ O))
   .exact h p (.inr O)
  unfold Sy.nxt;simp only;by_cases hf:(SyP qs).fin g=v_
  .rw[A6 hf];intro p O;rcases O with O|O
   .exact h p (.inl (ui _ O))
   .rcases Ae.mp O with O|O
    .exact h p (.inr O)
    .rw[Ac.mp O,0];exact[U:hn]
  .rw[A4 hf];let he:Gp.en g=none:=by
    cases he:Gp.en g with
    |none=>rfl|some d=>exact A9 (show(Gp.en g).isSome=v_ by rw[he];rfl) hf
   cases hw:(SyP qs).want g with
   |none=>exact on _ (Ll hq U he hw) ((Afj qs g).trans hn)|some m=>
    simp only;cases hy:Sy.yet #[Y,(n,g)::r,don] m with
    |some o=>
     cases o with
     |some a=>exact on _ (qaD U he (Oo hq h hy)) ((Ou _ _).trans hn)|none=>exact on _ (Lk U m) hn
    |none=>
     erw[Sy.zp hy,_,[g',e],_];simp only;rw[e];intro p O;rcases O with O|O
     .rcases Ab.mp O with rfl|O
      .exact AC hq e
      .exact h p (.inl O)
     .exact h p (.inr O)
structure Oc where
 (x dx px ls du dr df:o3)
abbrev ofs (o:Oc):oj (Str×V):= [("given_project",-o.px),("stack",-o.ls),("under_way",-o.du),("full_runs",-o.dr),("found",-o.df)]
abbrev OMT:oj Str:= ["go_through","enter","settle","runner","leave","go_on","answer_yet","begin_anew"]
def Abl (o:Oc):(ofs o).lookup ("given_project":Str)=u_ (-o.px):=rfl
def Nu (o:Oc):(ofs o).lookup ("stack":Str)=u_ (-o.ls):=rfl
def Abj (o:Oc):(ofs o).lookup ("under_way":Str)=u_ (-o.du):=rfl
def Afl (o:Oc):(ofs o).lookup ("full_runs":Str)=u_ (-o.dr):=rfl
def Nv (o:Oc):(ofs o).lookup ("found":Str)=u_ (-o.df):=rfl
def We (o:Oc):∀m>OMT,(ofs o).lookup m=none:=by
 intro m hm;simp![OMT,uH,uI,uU] at hm;rcases hm with rfl|rfl|rfl|rfl|rfl|rfl|rfl|rfl<;>rfl
structure Kp (L:oj o3)(H H':Hp):Prop where
 kept:∀b ob,H b=u_ ob->b∉L->H' b=u_ ob
 tk:Tk H H'
variable {L:oj o3}{H H':Hp}
def Kp.of (s:ie H H'):Kp L H H':=[λb ob h _=>s b ob h:s.tk]
variable {H1 H2:Hp}
def Kp.trans (h:Kp L H H1)(k:Kp L H1 H2):Kp L H H2:=[λb ob e n=>k.kept b ob (h.kept b ob e n) n:h.tk.trans k.tk]
variable {p:o3}
def Kp.updD {xs ys:oj (Key×V)}(h:H p=u_ (.dK xs))(O:p>L):Kp L H (upd H p (.dK ys)):=⟨λb ob e n=>by have nb:b≠p:=(λz=>n (by rwa[z]));rwa[qk nb],Tk.updD h⟩
def wF {κ:Type}[DecidableEq κ](k j:κ):∀kvs:oj (κ×V),lh (J1 kvs k) j=if j=k then U_ else lh kvs j
 | []=>by show U_=_;split<;>rfl|p::r=>by
  by_cases c:p.1=k
  .rw[LD c,wF k j r];by_cases d:j=k
   .rw[A6 d,A6 d]
   .rw[A4 d,A4 d,QL (λz=>d (z.symm.trans c))]
  .rw[LE c];by_cases d:p.1=j
   .rw[QU d,A4 (λz=>c (d.trans z)),QU d]
   .rw[QL d,wF k j r,QL d]
variable {C:o3}
def yX.kp {x:o3}(h:yX C H x qs)(k:Kp L H H')(U:∀p>L,(∃xs,H p=u_ (.lst xs))\/(∃xs,H p=u_ (.dK xs))\/H p=U_):yX C H' x qs:=by
 erw[h,dx,d,o,vs,O,e2,e3,e4];let n1:x∉L:=λz=>by rcases U x z with⟨_,e⟩|⟨_,e⟩|e<;>rw[e] at O<;>cases O
 let n2:d∉L:=λz=>by rcases U d z with⟨_,e⟩|⟨_,e⟩|e<;>rw[e] at e2<;>cases e2
 exact(dx,d,o,vs,k.kept _ _ O n1,k.kept _ _ e2 n2,e3,e4.mono k.tk)
structure OAt (CO CP:o3)(H:Hp)(o:Oc)(qs:#[23]):Prop where
 e:H o.x=u_ (.ins CO o.dx (ofs o))
 p:yX CP H o.px qs
def OAt.kp {CO CP:o3}{o:Oc}(h:OAt CO CP H o qs)(k:Kp L H H')(O:∀p>L,(∃xs,H p=u_ (.lst xs))\/(∃xs,H p=u_ (.dK xs))\/H p=U_):OAt CO CP H' o qs:=by
 rw[_,k.kept _ _ h.e (λz=>?_),h.p.kp k O];let U:=h.e;rcases O o.x z with⟨_,e⟩|⟨_,e⟩|e<;>rw[e] at U<;>cases U
abbrev Ab4 {qs:#[23]}(S:Sy.Ss (SyP qs))(uk:oj (Key×V)):Prop:=∀m:Str,(lh uk (Vx m)).isSome=decide (m>S.stk.map (·.1))
abbrev DX {qs:#[23]}(H:Hp)(S:Sy.Ss (SyP qs))(fk:oj (Key×V)):Prop:=∀(m:Str) (g:Gp),g0D m (qH qs m)=u_ g->
 (∀g':Gp,Sy.YQ S.don m=u_ g'->∃v,lh fk (Vx m)=u_ v/\Is H (QR (g'.en.getD .non)) v)/\(Sy.YQ S.don m=U_->lh fk (Vx m)=U_)
def DX.mono {S:Sy.Ss (SyP qs)}{fk:oj (Key×V)}(h:DX H S fk)(t:Tk H H'):DX H' S fk:=λm g O=>⟨λg' e=>let⟨v,a,b⟩:=(h m g O).1 g' e;[v:a:b.mono t],(h m g O).2⟩
abbrev Oh:om (om D)->D->Prop
 |some (u_ v),d=>d=-[-"value",v]|some U_,d=>d=-[-"lack"]|none,d=>∃k r,d= .tup (.str k::r)/\k≠"value"/\k≠"lack"
abbrev nrg (d:D):Prop:=∃k r,d= .tup (.str k::r)/\(k="value"\/k="lack"\/k="fault"\/k="stuck")
abbrev Aef (qs:#[23])(don:oj (Str×Gp))(m:Str):D:=match g0D m (qH qs m) with
 |none=>xJ (qH qs m)|some _=>QR (((Sy.YQ (Y:=SyP qs) don m).bind λg:Gp=>g.en).getD .non)
abbrev BZ {qs:#[23]}(H:Hp)(S:Sy.Ss (SyP qs))(m:Str)(v:V):Prop:=match Sy.yet S m with
 |none=>v= .non|some o=>∃d,Is H d v/\Oh o d/\(m∉S.stk.map (·.1)->nrg d/\d=Aef qs S.don m)
inductive Oz (CO CP:Addr):Sp
 |mk (o:Oc)(m:Str)(qs:List (Str×D))(S:Sy.Ss (SyP qs))(uk fk:List (Key×V))(_:vs= [-o.x,!m])(_:OAt CO CP H o qs)(_:yb qs)(_:SGI S)(_:H o.du=u_ (.dK uk))(_:Ab4 S uk)(_:H o.df=u_ (.dK fk))(_:DX H S fk)(_:↑fk<=100000)(_:(∀p>S.don,(SyP qs).fin p.2=v_))(_:∀(v:V)(H':Hp)(fk':List (Key×V)),Kp [o.df] H H'->H' o.df=u_ (.dK fk')->DX H' S fk'->↑fk'<=↑fk+1->(Sy.yet S m=U_->↑fk'=↑fk)->BZ H' S m v->Q v H')
inductive Er (CO:Addr):Sp
 |mk (x dx px:Addr)(_:vs= [-x,-px])(_:H x=u_ (.ins CO dx []))(_:∀(o:Oc)(H':Hp),o.x=x->o.dx=dx->o.px=px->(∀b ob,H b=u_ ob->b≠x->H' b=u_ ob)->Tk H H'->H o.ls=U_->H o.du=U_->H o.dr=U_->H o.df=U_-> [o.ls,o.du,o.dr,o.df].Nodup->H' x=u_ (.ins CO dx (ofs o))->H' o.ls=u_ (.lst [])->H' o.du=u_ (.dK [])->H' o.dr=u_ (.dK [])->H' o.df=u_ (.dK [])->Q .non H')
inductive MA:Sp
 |mk (x:_)(y:_)(_:vs= [x,y])(_:Q .non H)
def M9 (O:yb qs)(h:g0D m (qH qs m)=U_):∃k,xJ (qH qs m)= .tup k/\Oh (u_ (Ai (qH qs m))) (¬k)/\nrg (¬k):=by
 by_cases hm:m>#[15]
 .erw[JK O hm,hn,k,e,hd,h1,h2];rw[hd] at h⊢;unfold g0D at h;simp only at h;by_cases c:k="leaf"
  .rw[_,[-"value",e],?_,1,[_:0:.inl rfl]];unfold xJ;simp only;exact A6 c
  .rw[A4 c] at h;split at h<;>cases h
 .rw[Yi hm];exact[0:1:[_:0:.inr (.inl rfl)]]
def AaQ (O:yb qs)(h:g0D m (qH qs m)=u_ g):xJ (qH qs m)= .non:=by
 erw[JK O ((QK qs).gn m g h),hn,k,e,hd,h1,h2];rw[hd] at h⊢;unfold g0D at h;simp only at h;by_cases c:k="leaf"
 .rw[A6 c,0] at h
 .unfold xJ;simp only;exact A4 c
def Aee (h:GI g)(hf:g.en.isSome=v_):Oh ((j7 g).map u_) (QR (g.en.getD .non)):=by
 cases U:g.en with
 |none=>rw[U,0] at hf|some d=>
  unfold j7;rw[U];show Oh ((Xp d).map u_) (QR d);rcases h.en d U with⟨z,rfl⟩|⟨x,rfl,hx⟩|⟨z,rfl⟩
  .let O:Xp (flt z)=none:=by unfold Xp flt;dsimp only;exact A4 ()
   let e2:QR (flt z)=flt z:=by unfold QR flt;dsimp only;exact A4 ()
   rw[O,e2];exact("fault",[!z],1,(),())
  .let O:Xp (-[-"said",x])=u_ x:=by unfold Xp;dsimp only;exact A6 rfl
   let e2:QR (-[-"said",x])=-[-"value",x]:=by unfold QR;dsimp only;exact A6 rfl
   rw[O,e2];exact rfl
  .let O:Xp (-[-"stuck",!z])=none:=by unfold Xp;dsimp only;exact A4 ()
   let e2:QR (-[-"stuck",!z])=-[-"stuck",!z]:=by unfold QR;dsimp only;exact A4 ()
   rw[O,e2];exact("stuck",[!z],1,(),())
def Ab0 (h:GI g)(O:g.en.isSome=v_):nrg (QR (g.en.getD .non)):=by
 cases U:g.en with
 |none=>rw[U,0] at O|some d=>
  show nrg (QR d);rcases h.en d U with⟨z,rfl⟩|⟨x,rfl,hx⟩|⟨z,rfl⟩
  .let e2:QR (flt z)=flt z:=by unfold QR flt;dsimp only;exact A4 ()
   rw[e2];exact[_:0:.inr (.inr (.inl rfl))]
  .let e2:QR (-[-"said",x])=-[-"value",x]:=by unfold QR;dsimp only;exact A6 rfl
   rw[e2];exact[_:0:.inl rfl]
  .let e2:QR (-[-"stuck",!z])=-[-"stuck",!z]:=by unfold QR;dsimp only;exact A4 ()
   rw[e2];exact[_:0:.inr (.inr (.inr rfl))]
section
variable {P:o9}{w:og}{K:o0}{mg:Str->om o6}{base:o8}{a:Ad}{g:Ga}
def Nh:#[T,1,a.jc,a.jf,["self","going"],MA]:=by
 rw[9,T.lp,XB,O]
 erw[h,x,y,rfl,q];rw[3,%[|AaE]]
 exact q
def Abi:#[T,1,a.yO,a.yE,["self","project"],(Er a.qq)]:=by
 rw[9,T.iQ,jD]
 erw[h,x,dx,px,rfl,hx,q];let hs:=uF;rw[3,%[#[Qj,pv 1],#[Qj,#[QN,qd]],#[Qj,xn],#[Qj,xn]|#[Qj,xn]]]
 rw[0,0,x,_,dx,0,hx,T.qz,T.Qi,()]
 rw[_,(sml rfl),λU h1=>?_];let n1:x≠U:=qi qg h1
 rw[5]
 refine(0,x,_,dx,0,(qk n1).trans qg,T.qz,T.QF,by show 1<1000;decide,?_)
 intro l2 h2;let n2:x≠l2:=qi qg h2
 rw[5]
 refine(0,x,_,dx,0,(qk n2).trans qg,T.qz,T.QB,by show 2<1000;decide,?_)
 intro l3 h3;let n3:x≠l3:=qi qg h3
 rw[5]
 refine(0,x,_,dx,0,(qk n3).trans qg,T.qz,T.yY,by show 3<1000;decide,?_)
 intro l4 h4;let n4:x≠l4:=qi qg h4
 rw[5]
 refine(0,x,_,dx,0,(qk n4).trans qg,T.qz,T.QG,by show 4<1000;decide,?_)
 rw[qk n1.symm] at h1;let O:l2≠U:=λz=>by rw[z,qk n1.symm,qg,0] at h2
 let k2:H l2=none:=by rwa[qk n2.symm,qk O,qk n2.symm] at h2
 let aa:l3≠l2:=λz=>by rw[z,qk n2.symm,qg,0] at h3
 let ac:l3≠U:=λz=>by rw[z,qk n1.symm,qk O.symm,qk n1.symm,qg,0] at h3
 let k3:H l3=none:=by rwa[qk n3.symm,qk aa,qk n3.symm,qk ac,qk n3.symm] at h3
 let ad:l4≠l3:=λz=>by rw[z,qk n3.symm,qg,0] at h4
 let ae:l4≠l2:=λz=>by rw[z,qk n2.symm,qk aa.symm,qk n2.symm,qg,0] at h4
 let af:l4≠U:=λz=>by rw[z,qk n1.symm,qk ac.symm,qk n1.symm,qk O.symm,qk n1.symm,qg,0] at h4
 let k4:H l4=none:=by rwa[qk n4.symm,qk ad,qk n4.symm,qk ae,qk n4.symm,qk af,qk n4.symm] at h4
 let kp:∀b ob,H b=u_ ob->b≠x->(upd (upd (upd (upd (upd (upd (upd (upd (upd H x (.ins a.qq dx (iH "given_project" (V.ref px) []))) U (.lst [])) x (.ins a.qq dx (iH "stack" (V.ref U) (iH "given_project" (V.ref px) [])))) l2 (.dK [])) x (.ins a.qq dx (iH "under_way" (V.ref l2) (iH "stack" (V.ref U) (iH "given_project" (V.ref px) []))))) l3 (.dK [])) x (.ins a.qq dx (iH "full_runs" (V.ref l3) (iH "under_way" (V.ref l2) (iH "stack" (V.ref U) (iH "given_project" (V.ref px) [])))))) l4 (.dK [])) x (.ins a.qq dx (iH "found" (V.ref l4) (iH "full_runs" (V.ref l3) (iH "under_way" (V.ref l2) (iH "stack" (V.ref U) (iH "given_project" (V.ref px) []))))))) b=u_ ob:=λb ob h nb=>by
  rwa[qk nb,qk (qi h k4),qk nb,qk (qi h k3),qk nb,qk (qi h k2),qk nb,qk (qi h h1),qk nb]
 refine q (x,dx,px,U,l2,l3,l4) _ rfl rfl rfl kp ?_ h1 k2 k3 k4 ?_ ?_ ?_ ?_ ?_ ?_
 .rw[5]
  refine[λb xs e=>kp b _ e (λz=>?_):λb xs e=>[xs:kp b _ e (λz=>?_)]:λb xs e=>[xs:kp b _ e (λz=>?_)]]<;>(rw[z,hx,0] at e)
 .simp![Ue,uH,uI,uU,Vs,Vl,vY,and_true];exact[[O.symm:ac.symm:af.symm]:[aa.symm:ae.symm]:ad.symm]
 .exact qg
 .rw[qk n1.symm,qk af.symm,qk n1.symm,qk ac.symm,qk n1.symm,qk O.symm,qk n1.symm];exact qg
 .rw[qk n2.symm,qk ae.symm,qk n2.symm,qk aa.symm,qk n2.symm];exact qg
 .rw[qk n3.symm,qk ad.symm,qk n3.symm];exact qg
 .rw[qk n4.symm];exact qg
def Nc:#[T,2,a.Yd,a.ju,["self","project"],(Er a.qq)]:=by
 let U:=#[Abi,T];rw[9,T.lS,X4]
 erw[h,x,dx,px,rfl,O,q];rw[3,%[|#[Qe,#[Qw,pv 0,T.qz,T.iQ,U,#v[pv 1]]]]]
 exact(0,x,dx,0,O,1,0,x,dx,px,1,O,q)
def Cw:#[T,2,a.yD,a.yH,["self","name"],(Oz a.qq a.qI)]:=by
 let ym:=#[WJ,T];let wg:=#[Aa3,T];rw[9,T.ik,yx]
 erw[h,o,m,qs,S,uk,fk,rfl,hO,hq,hG,ad,hU,ac,hF,hl,aa,k];let hs:=uF;rw[3,%[#[qK,#[xQ,#[kU,pv 1,#[qQ,5,pv 0,rfl]]],%[|#[qp,#[qE,#v[qh]]]],qu],#[qy,(2),yx.nd,#[qr,wg,#[20],T.lY,qG,#v[#[Qw,#[qQ,5,pv 0,rfl],T.yR,T.iJ,ym,#v[pv 1]]]]],#[qK,#[qo,KN,pv 2,qY],%[|#[jj,#[qQ,5,pv 0,rfl],pv 1,pv 2]],qu]|#[qp,#[Cs,7,Qs hr,#[qQ,5,pv 0,rfl],pv 1,(1,1,1,1)]]]]
 rw[0,0,o.x,_,o.dx,_,0,hO.e,T.qz,T.QB,Abj o,o.du,0,mW.k (k:=Vx m) ad,0];rw[hU m];by_cases c:m>S.stk.map (·.1)
 .let ey:Sy.yet S m=u_ none:=by unfold Sy.yet;rw[A6 c]
  refine lD (ua c) [(sml rfl):λt ht=>?_];let s1:=qf ht (-[V.str "ring"]);refine k _ _ fk (Kp.of s1) (s1 _ _ ac) (hF.mono s1.tk) (UO _) (λ_=>rfl) ?_;unfold BZ;rw[ey];exact(_,Is.new (ds:= [-"ring"]) (_,0,QJ (),1) ht,("ring",[],1,(),()),λz=>A9 c z)
 refine iU (ub c) ?_
 rw[0,o.x,_,o.dx,_,0,hO.e,T.qz,T.Qi,Abl o];erw[id hO.p,ae,dp,op,ak,hx,hd,hk,hv]
 rw[_,o.px,ae,0,hx,ZO,0,o.px,m,qs,1,hO.p,λv h1 h2=>?_];let af:Is H (qH qs m) v:=by
  by_cases cm:m>#[15]
  .exact h1 cm
  .rw[h2 cm,Yi cm];exact rfl
 rw[_,v,qH qs m,1,af,?_,λu H1 s1 hu=>?_]
 .by_cases cm:m>#[15]
  .erw[JK hq cm,_,k,e,hd,_,<-.inr [k:e:hd]]
  .exact .inl (Yi cm)
 let O:=s1 _ _ ac
 rw[0,1,0];cases hg:g0D m (qH qs m) with
 |none=>
  erw[M9 hq hg,l,e1,e2,e3];rw[e1] at hu;let ag:u≠ .non:=Ze hu (by intro z;rw[z,0])
  let ey:Sy.yet S m=u_ (u_ (Ai (qH qs m))):=by have U:=hg;unfold Sy.yet;rw[A4 c,show(SyP qs).g0 m=_ from U];rfl
  refine lD (by simp[ag]) ?_
  let kp:Kp [o.df] H (upd H1 o.df (.dK (mo fk (Vx m) u))):=(Kp.of s1).trans (Kp.updD O uj)
  rw[0,0,o.x,_,o.dx,_,0,s1 _ _ hO.e,T.qz,T.QG,Nv o,0,o.df,0,DW.k (k:=Vx m) O ()]
  let ah:=hO.kp kp (by intro p hp;rw[Ac.mp hp,0];exact .inr (.inl [_:ac]))
  rw[0,o.x,_,o.dx,_,0,ah.e,T.qz,T.QG,Nv o,o.df,1,.inl [_:.inl qg],0,_,mW.k (k:=Vx m) qg];rw[zP,A6 rfl];refine k _ _ _ kp qg ?_ (Yh _ _ _) (λz=>by rw[ey,0] at z) ?_
  .intro m' g' U;rw[zP,A4 (λz=>by injection z with z;rw[z,hg,0] at U)]
   exact(hF.mono kp.tk) m' g' U
  .unfold BZ;rw[ey];exact(_,(hu.mono (Tk.updD O)),e2,λ_=>⟨e3,by unfold Aef;rw[hg];exact e1.symm⟩)
 |some g=>
  rw[AaQ hq hg] at hu;rw[show u= .non from hu,0]
  refine iU (by simp) ?_
  rw[0,o.x,_,o.dx,_,0,s1 _ _ hO.e,T.qz,T.QG,Nv o,o.df,1,.inl [_:.inl O],0,_,mW.k (k:=Vx m) O];refine k _ _ fk (Kp.of s1) O (hF.mono s1.tk) (UO _) (λ_=>rfl) ?_;let ey:Sy.yet S m=(Sy.YQ S.don m).map λg=>(j7 g).map some:=by have U:=hg;unfold Sy.yet;rw[A4 c,show(SyP qs).g0 m=_ from U];rfl
  erw[hF m g hg,f1,f2];unfold BZ;rw[ey];cases hd:Sy.YQ S.don m with
  |none=>
   rw[f2 hd];exact rfl
  |some g'=>
   erw[f1 g' hd,y,e1,e2];rw[e1];exact(_,e2.mono s1.tk,Aee (hG (m,g') (.inr (Sy.KI hd))).1 (aa (m,g') (Sy.KI hd)),λ_=>⟨Ab0 (hG (m,g') (.inr (Sy.KI hd))).1 (aa (m,g') (Sy.KI hd)),by unfold Aef;rw[hg,hd];rfl⟩)
structure nX (g:Gc)(s:Gs)(p:Gp):Prop where
 n:g.n=p.n
 mb:s.mb=p.mb
 ra:s.ra=p.ra
 run:(s.run.map λq=>(q.1.rs,q.2))=p.run
 own:∀mc r,s.run=u_ (mc,r)->mc.own=g.n
 en:s.en=p.en.getD .non
abbrev Acl:om (Mc×Rn)->oj o3
 |none=> []|some (mc,_)=> [mc.x,mc.db,mc.dg]
abbrev plc (g:Gc)(s:Gs):oj o3:=g.x::Acl s.run
def nX.none {g:Gc}{s:Gs}{p:Gp}(h:nX g s p)(e:p.run=U_):s.run=none:=by
 have:=h.run;rw[e] at this;cases O:s.run with
 |none=>rfl|some q=>rw[O,0] at this
def nX.some {g:Gc}{s:Gs}{p:Gp}(h:nX g s p){rs:oj Rw}{r:Rn}(e:p.run=u_ (rs,r)):∃mc:Mc,s.run=u_ (mc,r)/\mc.rs=rs/\mc.own=g.n:=by
 have:=h.run;rw[e] at this;cases O:s.run with
 |none=>rw[O,0] at this|some q=>
  erw[q,mc,U];rw[O,0] at this;exact(mc,1,1,h.own mc U O)
variable {CM:o3}
def mq.frame {g:Gc}{s:Gs}(h:mq C CM H g s)(O:∀b>plc g s,∀ob,H b=u_ ob->H' b=u_ ob)(t:Tk H H'):mq C CM H' g s:=by
 erw[h,dx,fs,mv,av,rv,ev,e,f,i,j,k,l];rw[_,dx,fs,mv,av,rv,ev,O _ uj _ e,f,i.mono t,j.mono t,?_,l.mono t];cases U:s.run with
 |none=>rwa[U] at k|some q=>
  erw[q,mc,r];let hp:plc g s= [g.x,mc.x,mc.db,mc.dg]:=by unfold plc Acl;rw[U]
  rw[hp] at O;rw[U] at k;erw[k,k1,k2,dm,fm,aa,ru,tv,gv,em,ac,i1,i2,[bf,ib,jb],i4,i5,i6,<-(k1,k2,dm,fm,aa,ru,tv,gv,O _ (by simp) _ em,ac,i1.mono t,i2.mono t,⟨bf,O _ (by simp) _ ib,λz hz=>(jb z hz).mono t⟩,O _ (by simp) _ i4,i5.mono t,i6.mono t)]
def mq.there {g:Gc}{s:Gs}(h:mq C CM H g s):∀b>plc g s,∃ob,H b=u_ ob:=by
 erw[h,dx,fs,mv,av,rv,ev,e,f,i,j,k,l];intro b O;rcases Ab.mp O with rfl|O
 .exact[_:e]
 .cases U:s.run with
  |none=>rw[U,0] at O|some q=>
   erw[q,mc,r];rw[U] at O k;erw[k,k1,k2,dm,fm,aa,ru,tv,gv,em,ac,i1,i2,[bf,ib,jb],i4,i5,i6];simp![Acl,uH,uI,uU] at O;rcases O with rfl|rfl|rfl
   .exact[_:em]
   .exact[_:ib]
   .exact[_:i4]
def L5 {g:Gc}{d:D}{s s':Gs}{p:Gp}(b:On H g d s s')(h:nX g s p)(U:p.run=U_)(he:p.en=U_):nX g s' (nw p d)/\∀c>plc g s',c=g.x\/H c=none:=by
 let hr:=h.none U;let aa:s.en= .non:=by rw[h.en,he];rfl
 let nil:s'.run=U_->∀c>plc g s',c=g.x\/H c=none:=λe c O=>by
  unfold plc at O;rw[e] at O;rcases Ab.mp O with z|z
  .exact .inl z
  .rw[z,0]
 unfold nw;by_cases c:d= .non
 .erw[b.lack c,b1,b2];rw[A6 (by rw[c];rfl)]
  exact⟨(h.n,b.mb.trans h.mb,b.ra.trans h.ra,(by show _=p.run;rw[b1,U];rfl),(λmc r e=>by rw[b1,0] at e),b2),nil b1⟩
 .rw[A4 (λz=>c (by cases d with|non=>rfl|_=>rw[z,0]))]
  cases hd:yf d with
  |none=>
   erw[b.rule c hd,b1,b2,<-⟨(h.n,b.mb.trans h.mb,b.ra.trans h.ra,(by show _=p.run;rw[b1,U];rfl),(λmc r e=>by rw[b1,0] at e),b2),nil b1⟩]
  |some rs=>
   erw[b.go rs hd,mc,c1,c2,c3,c4,c5,c6,c7];rw[_,(h.n,b.mb.trans h.mb,b.ra.trans h.ra,?_,λac r e=>?_,?_),λc O=>?_]
   .rw[c6];show u_ (mc.rs,R0 rs g.n)=u_ (rs,R0 rs p.n);rw[c4,h.n]
   .rw[c6,0] at e;exact c5
   .rw[c7,h.n,aa];show _=(mC (R0 rs p.n)).getD .non;unfold mC;split<;>rfl
   .unfold plc at O;rw[c6] at O;simp![Acl,uH,uI,uU] at O;rcases O with z|rfl|rfl|rfl
    .exact .inl z
    .exact .inr c1
    .exact .inr c2
    .exact .inr c3
abbrev Bo:om (oj Rw×Rn)->oj D
 |none=> []|some (_,r)=>r.gs
abbrev xz (p:Gp):D:=-[.tup (p.ra++Bo p.run),p.en.getD .non]
def CY {g:Gc}{s:Gs}{p:Gp}(h:nX g s p):NU s=xz p:=by
 unfold NU xz;rw[h.ra,h.en];let e:AcY s.run=Bo p.run:=by
  rw[<-h.run];cases s.run with
  |none=>rfl|some q=>rfl
 rw[e]
def NT {p:Gp}(h:GI p):↑p.ra+↑(Bo p.run)<=1000:=by
 let h1:=h.ra.2.2;cases O:p.run with
 |none=>show _+0<=1000;omega|some q=>
  erw[q,rs,r];let h2:=(h.run rs r O).2.1;let h3:=h2.gs.2.2;let h4:=h2.n;show _+↑r.gs<=1000;omega
inductive MD (CO CP CG CM:Addr):Sp
 |mk (o:Oc)(m:Str)(qs:List (Str×D))(xs:List V)(uk:List (Key×V))(p:Gp)(_:vs= [-o.x,!m])(_:OAt CO CP H o qs)(_:yb qs)(_:H o.ls=u_ (.lst xs))(_:↑xs<=100000)(_:H o.du=u_ (.dK uk))(_:↑uk<=100000)(_:g0D m (qH qs m)=u_ p)(_:∀(g:Gc)(s:Gs)(H':Hp),Kp [o.ls,o.du] H H'->H' o.ls=u_ (.lst (xs++ [-g.x]))->H' o.du=u_ (.dK (mo uk (Vx m) (.bl v_)))->mq CG CM H' g s->nX g s p->g.o=o.x->(∀b>plc g s,H b=U_)->Q .non H')
inductive Eh (CO CP CG CM:Addr):Sp
 |mk (o:Oc)(qs:List (Str×D))(g:Gc)(s:Gs)(p:Gp)(rk fk:List (Key×V))(_:vs= [-o.x,-g.x])(_:OAt CO CP H o qs)(_:mq CG CM H g s)(_:nX g s p)(_:GI p)(_:p.en.isSome=v_)(_:H o.dr=u_ (.dK rk))(_:↑rk<=100000)(_:H o.df=u_ (.dK fk))(_:↑fk<=100000)(_:o.dr≠o.df)(_:o.dr∉plc g s)(_:o.df∉plc g s)(_:∀(v1 v2:V)(H':Hp),Kp [o.dr,o.df] H H'->H' o.dr=u_ (.dK (mo rk (Vx g.n) v1))->Is H' (xz p) v1->H' o.df=u_ (.dK (mo fk (Vx g.n) v2))->Is H' (QR (p.en.getD .non)) v2->Q .non H')
set_option tactic.hygienic true in
def No:#[C,12,a.Y8,a.je,["self","name"],(MD a.qq a.qI a.qO a.qm)]:=by
 let ym:=#[WJ,T];let O:=#[Nk,T,C];rw[9,T.iN,Xn]
 erw[h,o,m,qs,xs,uk,p,rfl,hO,hq,U,aq,aa,au,hp,k];let hs:=uF;rw[3,%[#[Qe,#[Jm,vh,U3,U4,jv,#[qQ,5,pv 0,rfl],#v[#[Jq,T.M_Going,O,hr.mono (),T.m_Going,T.mT,qG,#v[pv 1,#[Qw,#[qQ,5,pv 0,rfl],T.yR,T.iJ,ym,#v[pv 1]],pv 0]]]]]|#[jj,#[qQ,5,pv 0,rfl],pv 1,jC]]]
 rw[0,o.x,_,o.dx,_,0,hO.e,T.qz,T.QF,Nu o,.inl [1:_:SqL.of U]]
 rw[0,0,o.x,_,o.dx,_,0,hO.e,T.qz,T.Qi,Abl o];erw[id hO.p,al,dp,op,aw,hx,hd,hk,hv]
 rw[_,o.px,al,0,hx,ZO,0,o.px,m,qs,1,hO.p,λsv h1 h2=>?_];let hm:m>qs.map (·.1):=(QK qs).gn m p hp;let ag:=h1 hm;erw[JK hq hm,hn,kk,e,am,g1,g2];rw[am] at ag hp
 rw[0,λx dx ac ah nx=>?_];let s0:ie H (upd (upd H dx (.own x)) x (.ins a.qO dx [])):=λb o h=>by rwa[qk (qi h ac),qk (qi h ah)]
 let nox:o.x≠x:=qi hO.e ac
 rw[_,x,dx,o.x,m,kk,sv,e,1,qg,ag.mono s0.tk,hn,nox,(_,_,s0 _ _ hO.e,We o _ ()),λH1 s1 ao ax G1 b1 b2=>[1:?_]]
 let ad:ie H H1:=λb ob h=>ao b ob (s0 b ob h) (qi h ac);let rel:nX ⟨x,o.x,m⟩ s1 p/\∀c>plc ⟨x,o.x,m⟩ s1,H c=none:=by
  unfold g0D at hp;simp only at hp;split at hp
  .rw[hp,0]
  .split at hp
   .rename_i c
    rw[hp,0];let e1:=b1 c;rw[e1]
    rw[_,(1,1,1,1,(λ_ _ z=>by rw[z,0]),1),λc hc=>?_]
    rcases Ab.mp hc with rfl|hc
    .exact ac
    .rw[hc,0]
   .rename_i c
    rw[hp,0];obtain⟨r1,r2⟩:=L5 (p:=(m,.non,[],U_,U_)) (b2 c) (1,1,1,1,(λ_ _ z=>by rw[z,0]),1) rfl rfl
    rw[_,r1,λc hc=>?_];rcases r2 c hc with rfl|hc
    .exact ac
    .exact s0.free hc
 rw[_,o.ls,xs,0,1,ad _ _ U,()]
 let ak:Kp [o.ls,o.du] H1 (upd H1 o.ls (.lst (xs++ [-x]))):=⟨λb ob h n=>by rw[qk (λz=>n (by rw[z];exact uj))];exact h,ll.tk (p:=o.ls) (λb ob h n=>by rwa[qk n]) (ad _ _ U) qg⟩
 let n1:o.du≠o.ls:=λz=>by rw[z,U,0] at aa
 let ae:upd H1 o.ls (.lst (xs++ [-x])) o.du=u_ (.dK uk):=by rw[qk n1];exact ad _ _ aa
 let n2:o.x≠o.ls:=λz=>by have:=hO.e;rw[z,U,0] at this
 let n3:o.x≠o.du:=λz=>by have:=hO.e;rw[z,aa,0] at this
 rw[0,o.x,_,o.dx,_,0,(by rw[qk n2];exact ad _ _ hO.e),T.qz,T.QB,Abj o,0,o.du,0,DW.k (k:=Vx m) ae ()]
 let ap:=((Kp.of (L:= [o.ls,o.du]) ad).trans ak).trans (Kp.updD (ys:=mo uk (Vx m) (.bl v_)) ae (ui _ uj));refine k [x:o.x:m] s1 _ ap (by rw[qk n1.symm];exact qg) qg (G1.frame (λb hb ob h=>?_) ((ak.trans (Kp.updD (ys:=mo uk (Vx m) (.bl v_)) ae (ui _ uj)))).tk) rel.1 rfl rel.2
 let af:=rel.2 b hb;let m1:b≠o.ls:=λz=>by rw[z,U,0] at af
 let m2:b≠o.du:=λz=>by rw[z,aa,0] at af
 rw[qk m2,qk m1];exact h
def E7:#[T,3,a.YM,a.YR,["self","going"],(Eh a.qq a.qI a.qO a.qm)]:=by
 let O:=#[Abe,T];let U:=#[Nt,T];let XV:=#[Nh,T];rw[9,T.kw,xD]
 erw[h,o,qs,g,st,p,rk,fk,rfl,hO,hG,hR,hI,af,ad,aA,ag,aB,ah,nr,nf,k];let hs:=uF;rw[3,%[#[jj,#[qQ,5,pv 0,rfl],#[qQ,5,pv 1,rfl],#[QC,pv 1,T.qT,T.mU,O]],#[jj,#[qQ,5,pv 0,rfl],#[qQ,5,pv 1,rfl],#[qr,U,#[20],T.ni,qG,#v[#[qQ,5,pv 1,rfl]]]]|#[Qe,#[Qw,pv 0,T.qz,T.lp,XV,#v[pv 1]]]]]
 erw[id hG,dx,fs,mv,av,rv,ev,e,f,i,j,aC,l];let ax:o.dr≠g.x:=λz=>nr (by rw[z];exact uj)
 let aD:o.df≠g.x:=λz=>nf (by rw[z];exact uj)
 let ak:o.x≠o.dr:=λz=>by have:=hO.e;rw[z,ad,0] at this
 let al:o.x≠o.df:=λz=>by have:=hO.e;rw[z,ag,0] at this
 let am:↑(AcY st.run)=↑(Bo p.run):=by
  have:=CY hR;unfold NU xz at this;simp![D.tup.injEq,U2] at this;have:=this.1;rw[hR.ra] at this;rw[List.append_cancel_left this]
 rw[0,g.x,dx,fs,1,e,f.meth _ (),g,st,1,hG,(by rw[hR.ra,am];exact NT hI),λv1 H1 s1 i1=>?_]
 rw[CY hR] at i1
 rw[0,o.x,_,o.dx,_,0,s1 _ _ hO.e,T.qz,T.yY,Afl o,0,g.x,_,dx,fs,0,s1 _ _ e,T.qT,T.Yn,f.ZY,o.dr,0,DW.k (k:=Vx g.n) (s1 _ _ ad) ()]
 let ae:Kp [o.dr,o.df] H (upd H1 o.dr (.dK (mo rk (Vx g.n) v1))):=(Kp.of s1).trans (Kp.updD (s1 _ _ ad) uj);generalize aa:upd H1 o.dr (.dK (mo rk (Vx g.n) v1))=H2 at ae⊢;let ao:H2 o.dr=u_ (.dK (mo rk (Vx g.n) v1)):=by rw[<-aa];exact qg
 let e2:H2 g.x=u_ (.ins a.qO dx fs):=by rw[<-aa,qk ax.symm];exact s1 _ _ e
 let ap:H2 o.x=u_ (.ins a.qq o.dx (ofs o)):=by rw[<-aa,qk ak];exact s1 _ _ hO.e
 let ac:H2 o.df=u_ (.dK fk):=by rw[<-aa,qk ah.symm];exact s1 _ _ ag
 let i2:Is H2 (xz p) v1:=i1.mono (by rw[<-aa];exact Tk.updD (s1 _ _ ad))
 let l2:Is H2 (p.en.getD .non) ev:=by rw[<-hR.en];exact l.mono ae.tk
 obtain⟨kk,ee,aq⟩:∃kk ee,p.en.getD .non=-[!kk,ee]:=by
  cases au:p.en with
  |none=>rw[au,0] at af|some d=>
   rcases hI.en d au with⟨z,rfl⟩|⟨x,rfl,_⟩|⟨z,rfl⟩
   .exact[_:0]
   .exact[_:0]
   .exact[_:0]
 rw[0,g.x,_,dx,fs,0,e2,T.qT,T.Q4,f.f_end,ev,kk,ee,1,(by rwa[<-aq]),λv2 H3 s3 i3=>?_]
 rw[<-aq] at i3
 rw[0,o.x,_,o.dx,_,0,s3 _ _ ap,T.qz,T.QG,Nv o,0,g.x,_,dx,fs,0,s3 _ _ e2,T.qT,T.Yn,f.ZY,o.df,0,DW.k (k:=Vx g.n) (s3 _ _ ac) ()]
 let aw:Tk H3 (upd H3 o.df (.dK (mo fk (Vx g.n) v2))):=Tk.updD (s3 _ _ ac);let ay:Kp [o.dr,o.df] H (upd H3 o.df (.dK (mo fk (Vx g.n) v2))):=(ae.trans (Kp.of s3)).trans (Kp.updD (s3 _ _ ac) (ui _ uj))
 rw[0,o.x,o.dx,0,(by rw[qk al];exact s3 _ _ ap),We o _ (),0,_,0]
 exact k v1 v2 _ ay (by rw[qk ah];exact s3 _ _ ao) (i2.mono (s3.tk.trans aw)) qg (i3.mono aw)
end
variable {v:V}
def Iw:G7 ("looked_up":Str) [(("by_name":Str),v)]=none:=by rfl
def Agf (k:Str):inV (V.str k) [V.str "has",V.str "names"]=CS k:=by
 let h:=wB k ["has","names"];refine h.trans ?_;unfold CS;rw[<-Bool.decide_or,vc];simp
section
variable {C CM CO:o3}{H:Hp}{g:Gc}{s:Gs}{p:Gp}{Q:VK}{E:XK}
def SE (G:mq C CM H g s)(R:nX g s p)(I:GI p)(O:p.en=U_)(U:yV p=u_ m)(k:∀kd v H',ie H H'->CS kd=Vt->Is H' (-[!kd,!m]) v->Q v H'):zC C CM [-g.x] H Q E:=by
 erw[kz I O U,hn,h];rw[_,g,s,1,G];rcases h with⟨h1,h2⟩|⟨rs,r,h1,h2⟩
 .exact .inl (R.none h1,m,by rw[R.mb,h2],λv H' s' i=>k _ v H' s' () i)
 .erw[R.some h1,mc,e1,e2,e3,<-.inr (mc,r,_,e1,h2,λv i=>k _ v H (ie.refl _) () i)]
def Ml (G:mq C CM H g s)(R:nX g s p)(I:GI p)(O:p.en=U_)(U:yV p=U_)(k:∀rs r kd z v,p.run=u_ (rs,r)->r.th= .tup [-"asks",-[!kd,!z]]->CS kd=v_->isT (!z)=v_->nZ qs p=yS p (Xi qs kd z)->Is H (-[!kd,!z]) v->Q v H):zC C CM [-g.x] H Q E:=by
 erw[qat (qs:=qs) I O U,rs,r,kd,z,h1,h2,h3,h4,h5];erw[R.some h1,mc,e1,e2,e3,<-(g,s,1,G,.inr (mc,r,_,e1,h2,λv i=>k rs r kd z v h1 h2 h3 h4 h5 i))]
def D8 (G:mq C CM H g s)(R:nX g s p)(I:GI p)(he:p.en=U_){d:D}{v:V}(hv:Is H d v)(U:∀rs r,p.run=u_ (rs,r)->∃u q,r.th= .tup [-"asks",-[!u,q]]/\DS u d=v_)(aa:g.o≠g.x)(ho:∃dx fs,H g.o=u_ (.ins CO dx fs)/\fs.lookup ("runner":Str)=U_)
  (k:∀H' s',Gw g s.run H H'->mq C CM H' g s'->nX g s' (yS p d)->(∀b>plc g s',b>plc g s\/H b=U_)->Q .non H'):zk C CM CO [-g.x,v] H Q E:=by
 refine(g,s,v,d,1,G,by rw[R.n];exact I.n,hv,aa,ho,?_)
 cases O:p.run with
 |none=>
  erw[I.no O he,z,hz,_];let hr:=R.none O;refine .inl (hr,z,by rw[R.mb,hz],λH' s' w G' b=>?_)
  obtain⟨r1,r2⟩:=L5 (p:=(p.n,p.mb,[-[-[-"rule",p.mb],d]],U_,U_)) b (R.n,R.mb,(by show _= [D.tup [-[-"rule",p.mb],d]];rw[hz]),(by show s.run.map _=U_;rw[hr];rfl),R.own,(by show s.en= .non;rw[R.en,he];rfl)) rfl rfl
  refine k H' s' w G' ?_ λc hc=>?_
  .have:yS p d=nw (p.n,p.mb,[-[-[-"rule",p.mb],d]],U_,U_) d:=by
    unfold yS;rw[O];show nw (p.n,p.mb,_,U_,p.en) d=_;rw[he]
   rwa[this]
  .rcases r2 c hc with rfl|h
   .exact .inl uj
   .exact .inr h
 |some q=>
  erw[q,rs,r];erw[R.some O,mc,e1,e2,e3];erw[I.run rs r O,k1,k2,k3,k4];erw[U rs r O,u,q,h1,h2];subst e2;refine .inr (mc,r,u,q,e1,e3,k1,k2,h1,h2,λH' w G'=>?_);let ee:yS p d={p with run:=u_ (mc.rs,mX mc.rs p.n r d),en:=mC (mX mc.rs p.n r d)}:=by unfold yS;rw[O]
  refine k H' _ w G' ?_ ?_
  .rw[ee,e3,R.n];unfold Ao mC;by_cases c:QH (mX mc.rs p.n r d).th=v_
   .rw[A6 c,A6 c];exact(R.n,R.mb,R.ra,1,(λac r' z=>by rw[z,0];exact e3),(by show s.en= .non;rw[R.en,he];rfl))
   .rw[A4 c,A4 c];exact(R.n,R.mb,R.ra,1,(λac r' z=>by rw[z,0];exact e3),1)
  .intro b hb;left;unfold plc at hb⊢;rw[e1];unfold Ao at hb;split at hb<;>exact hb
end
abbrev LO (o:Oc):oj o3:= [o.ls,o.du,o.dr,o.df]
structure Bs (CO CP:o3)(H0:Hp)(o:Oc)(qs:#[23]):Prop where
 oa:OAt CO CP H0 o qs
 ls:∃xs,H0 o.ls=u_ (.lst xs)
 du:∃xs,H0 o.du=u_ (.dK xs)
 dr:∃xs,H0 o.dr=u_ (.dK xs)
 df:∃xs,H0 o.df=u_ (.dK xs)
 nd:(LO o).Nodup
 q:yb qs
section
variable {CO CP:o3}{H0 H H':Hp}{o:Oc}{qs:#[23]}
def Bs.at (b:Bs CO CP H0 o qs)(k:Kp (LO o) H0 H):OAt CO CP H o qs:=b.oa.kp k (by
 intro p O;simp![LO,uH,uI,uU] at O;rcases O with rfl|rfl|rfl|rfl
 .exact .inl b.ls
 .exact .inr (.inl b.du)
 .exact .inr (.inl b.dr)
 .exact .inr (.inl b.df))
def Bs.new (b:Bs CO CP H0 o qs){c:o3}(h:H0 c=U_):c≠o.x/\c≠o.ls/\c≠o.du/\c≠o.dr/\c≠o.df:=by
 erw[b.ls,_,h1];erw[b.du,_,h2];erw[b.dr,_,h3];erw[b.df,_,h4,<-((qi b.oa.e h).symm,(qi h1 h).symm,(qi h2 h).symm,(qi h3 h).symm,(qi h4 h).symm)]
def Bs.nlo (b:Bs CO CP H0 o qs){c:o3}(h:H0 c=U_):c∉LO o:=by
 erw[b.new h,_,h1,h2,h3,h4];simp![LO,uH,uI,uU,Vs];exact(h1,h2,h3,h4)
def BI (b:Bs CO CP H0 o qs)(k:Kp (LO o) H0 H)(h:∀c ob,H c=u_ ob->c∉o.df::L->H' c=u_ ob)(t:Tk H H')(O:∀c>L,H0 c=U_):Kp (LO o) H0 H':=⟨λc ob e n=>h c ob (k.kept c ob e n) (λz=>by
 rcases Ab.mp z with rfl|z
 .exact n (by simp[LO])
 .rw[O c z,0] at e),k.tk.trans t⟩
end
section
variable {qs:#[23]}{n:Str}{p:Gp}{r don:oj (Str×Gp)}
def Abp (U:p.en=U_)(hw:yV p=U_):Sy.nxt #[Y,(n,p)::r,don]=[(n,nZ qs p)::r:don]:=by
 let hf:(SyP qs).fin p=false:=by show p.en.isSome=Vt;rw[U];rfl
 let O:(SyP qs).want p=none:=hw;unfold Sy.nxt;simp only;rw[hf,A4 uh,O]
 rfl
def Adz (U:p.en=U_)(hw:yV p=u_ m){a:om D}(hy:Sy.yet #[Y,(n,p)::r,don] m=u_ (u_ a)):Sy.nxt #[Y,(n,p)::r,don]=[(n,yS p (a.getD .non))::r:don]:=by
 let hf:(SyP qs).fin p=false:=by show p.en.isSome=Vt;rw[U];rfl
 let O:(SyP qs).want p=u_ m:=hw;unfold Sy.nxt;simp only;rw[hf,A4 uh,O];simp only;rw[hy]
 rfl
def Abn (U:p.en=U_)(hw:yV p=u_ m)(hy:Sy.yet #[Y,(n,p)::r,don] m=u_ U_):Sy.nxt #[Y,(n,p)::r,don]=[(n,D9 p m)::r:don]:=by
 let hf:(SyP qs).fin p=false:=by show p.en.isSome=Vt;rw[U];rfl
 let O:(SyP qs).want p=u_ m:=hw;unfold Sy.nxt;simp only;rw[hf,A4 uh,O];simp only;rw[hy]
 rfl
def Nw (he:p.en=U_)(hw:yV p=u_ m)(U:Sy.yet #[Y,(n,p)::r,don] m=U_):∃p',g0D m (qH qs m)=u_ p'/\Sy.nxt #[Y,(n,p)::r,don]=[(m,p')::(n,p)::r:don]:=by
 let hf:(SyP qs).fin p=false:=by show p.en.isSome=Vt;rw[he];rfl
 let O:(SyP qs).want p=u_ m:=hw;erw[Sy.zp U,_,[p',e],_];rw[_,p',e];unfold Sy.nxt;simp only;rw[hf,A4 uh,O];simp only;rw[U];simp only;rw[e]
def Abo {d:D}(O:p.en=u_ d):Sy.nxt #[Y,(n,p)::r,don]=[r:don++ [(n,p)]]:=by
 let U:(SyP qs).fin p=true:=by show p.en.isSome=v_;rw[O];rfl
 unfold Sy.nxt;simp only;rw[U,A6 rfl]
 rfl
end
def DR {d:D}(h:Ju d):DS "thing" d=true:=by
 unfold DS;rcases h with rfl|h
 .rfl
 .cases hn:xw d with
  |true=>rfl|false=>
   rw[A4 uh,A6 h,A4 ()]
   rfl
structure Rnd {qs:#[23]}(CG CM:o3)(H0 H H1:Hp)(o:Oc)(S:Sy.Ss (SyP qs))(L0:oj o3)(g:Gc)(s1:Gs)(n:Str)(p1:Gp)(r:oj (Str×Gp))(fk1:oj (Key×V))(top:Nat):Prop where
 st:∃j,#[Y,(n,p1)::r,S.don]=Sy.nx S j
 len:↑fk1+Sy.mu #[Y,(n,p1)::r,S.don]<=top
 kp:∀b ob,H b=u_ ob->b∉o.df::L0->H1 b=u_ ob
 tk:Tk H H1
 df:H1 o.df=u_ (.dK fk1)
 fd:DX H1 S fk1
 go:mq CG CM H1 g s1
 rel:nX g s1 p1
 pl:∀b>plc g s1,b>L0\/H b=U_/\H0 b=U_
 gi:SGI #[Y,(n,p1)::r,S.don]
inductive AcO (CO CP CG CM:Addr):Sp
 |mk (H0:Hp)(o:Oc)(qs:List (Str×D))(g:Gc)(s:Gs)(n:Str)(p:Gp)(r don:List (Str×Gp))(uk fk:List (Key×V))(top:Nat)(_:vs= [-o.x,-g.x])(_:Bs CO CP H0 o qs)(_:Kp (LO o) H0 H)(_:H o.du=u_ (.dK uk))(_:Ab4 #[Y,(n,p)::r,don] uk)(_:(∀q>don,q.2.en.isSome=v_))(_:top<=100000)(_:g.o=o.x)(_:(∀b>plc g s,H0 b=U_))(_:Rnd CG CM H0 H H o #[Y,(n,p)::r,don] (plc g s) g s n p r fk top)(_:∀(v:V)(H':Hp)(s':Gs)(p':Gp)(fk':List (Key×V)),Rnd CG CM H0 H H' o #[Y,(n,p)::r,don] (plc g s) g s' n p' r fk' top->((v= .non/\p'.en.isSome=v_)\/∃m,v= .str m/\p'.en=U_/\yV p'=u_ m/\Sy.yet #[Y,(n,p')::r,don] m=U_)->Q v H')
def Rnd.more {qs:#[23]}{CG CM CO CP:o3}{H0 H H1 H2 H3:Hp}{o:Oc}{S:Sy.Ss (SyP qs)}{L0:oj o3}{g:Gc}{s1 s3:Gs}{n:Str}{p1 p3:Gp}{r:oj (Str×Gp)}{fk1 U:oj (Key×V)}{top:Nat}(b:Bs CO CP H0 o qs)(k0:Kp (LO o) H0 H)(hL:∀b>L0,H0 b=U_)(h:Rnd CG CM H0 H H1 o S L0 g s1 n p1 r fk1 top)(k2:Kp [o.df] H1 H2)(f2:H2 o.df=u_ (.dK U))(d2:DX H2 S U)(l2:↑U<=↑fk1+1)
  (ac:∀b ob,H2 b=u_ ob->b∉plc g s1->H3 b=u_ ob) (t3:Tk H2 H3) (G3:mq CG CM H3 g s3) (R3:nX g s3 p3) (ae:∀b>plc g s3,b>plc g s1\/H2 b=U_) (e:Sy.nxt #[Y,(n,p1)::r,S.don]=[(n,p3)::r:S.don]):
  Rnd CG CM H0 H H3 o S L0 g s3 n p3 r U top/\Sy.mu #[Y,(n,p3)::r,S.don]<Sy.mu #[Y,(n,p1)::r,S.don]:=by
 let ad:=Sy.nxt_mu (QK qs) (S:=#[Y,(n,p1)::r,S.don]) (by intro z;rw[z,0])
 rw[e] at ad;let af:∀b>plc g s1,H0 b=none:=λb hb=>(h.pl b hb).elim (hL b) (·.2);let nf:o.df∉plc g s1:=λz=>(b.new (af _ z)).2.2.2.2 rfl;let ag:∀b ob,H1 b=u_ ob->b∉o.df::plc g s1->H3 b=u_ ob:=λc ob q z=>ac c ob (k2.kept c ob q (λy=>z (by rw[Ac.mp y];exact uj))) (λy=>z (ui _ y))
 refine⟨(?_,by have:=h.len;omega,λc ob q z=>?_,(h.tk.trans k2.tk).trans t3,ac _ _ f2 nf,d2.mono t3,G3,R3,λc hc=>?_,?_),ad⟩
 .erw[h.st,j,hj,<-⟨j+1,by show _=Sy.nxt (Sy.nx S j);rw[<-hj,e]⟩]
 .refine ag c ob (h.kp c ob q z) λy=>?_;rcases Ab.mp y with rfl|y
  .exact z uj
  .rcases h.pl c y with y|⟨y,_⟩
   .exact z (ui _ y)
   .rw[q,0] at y
 .rcases ae c hc with hc|hc
  .exact h.pl c hc
  .let O:H1 c=none:=by
    cases hq:H1 c with
    |none=>rfl|some ob=>
     by_cases y:c=o.df
     .rw[y,f2,0] at hc
     .rw[k2.kept c ob hq (λz=>y (Ac.mp z)),0] at hc
   by_cases c0:c>L0
   .exact .inl c0
   .right;let aa:H c=none:=by
     cases hq:H c with
     |none=>rfl|some ob=>
      by_cases y:c=o.df
      .rw[y,h.df,0] at O
      .rw[h.kp c ob hq (λz=>by rcases Ab.mp z with z|z;exact y z;exact c0 z),0] at O
    rw[_,aa];cases hq:H0 c with
    |none=>rfl|some ob=>
     by_cases y:c>LO o
     .have:=BI b k0 h.kp h.tk hL;simp![LO,uH,uI,uU] at y;let keep:∀x,(∃xs,H0 x=u_ (.lst xs))\/(∃xs,H0 x=u_ (.dK xs))->H1 x≠none:=λx hx hn=>by
       rcases hx with⟨xs,hx⟩|⟨xs,hx⟩
       .erw[this.tk.lst x xs hx,ys,hy];rw[hy,0] at hn
       .erw[this.tk.dct x xs hx,ys,hy];rw[hy,0] at hn
      rcases y with rfl|rfl|rfl|rfl
      .exact A9 O (keep _ (.inl b.ls))
      .exact A9 O (keep _ (.inr b.du))
      .exact A9 O (keep _ (.inr b.dr))
      .exact A9 O (keep _ (.inr b.df))
     .rw[k0.kept c ob hq y,0] at aa
 .have:=Iu b.q h.gi;rwa[e] at this
section
variable {P:o9}{w:og}{K:o0}{mg:Str->om o6}{base:o8}{a:Ad}{g:Ga}
def Adv:#[C,11,a.Y9,a.ja,["self","going"],(AcO a.qq a.qI a.qO a.qm)]:=by
 let W8:=#[E5,T];let JB:=#[Nj,T,C];let XE:=#[Ig,T];let Qa:=#[Cw,T];rw[9,T.lq,yw]
 erw[h,H0,o,qs,gc,st,n,p,r,don,uk,fk,top,rfl,hB,hK,aK,hU,ap,aY,aq,hL,h0,k];let hs:=uF;rw[3,%[#[xg,#[qo,Yz,#[qQ,5,pv 1,rfl],qY],%[#[qy,(2),yw.nd,#[QC,pv 1,T.qT,T.mB,W8]],#[qK,#[qo,8,ya,#[qL,qJ,pv 2,qj],#[qE,#v[qh,qh]],#[w]],%[#[Qe,#[Qw,pv 1,T.qT,T.lj,JB,#v[#[Qw,#[qQ,5,pv 0,rfl],T.yR,T.jS,XE,#v[pv 2]]]]]|Bt],qu],#[qy,(3),yw.nd,#[Qw,pv 0,T.qz,T.ik,Qa,#v[#[qL,qJ,pv 2,qj]]]],#[qK,#[qo,Yz,pv 3,qY],%[|#[qp,#[qL,qJ,pv 2,qj]]],qu]|#[qK,#[qo,Qn,#[qL,qJ,pv 3,qj],qh],%[|#[Qe,#[Qw,pv 1,T.qT,T.lj,JB,#v[#[qL,qJ,pv 3,qj]]]]],%[|#[qK,#[qo,Qn,#[qL,qJ,pv 3,qj],qh],%[|#[Qe,#[Qw,pv 1,T.qT,T.lj,JB,#v[qY]]]],%[|#[Qj,8,pv 1,#[qE,#v[qh,#[qL,qJ,pv 2,qj]]],rfl]]]]]]]|#[qp,qY]]]
 refine_lift let J_:Nat->L2.St->Hp->Prop:=λmm σ H1=>∃(s1:Gs) (p1:Gp) (fk1:oj (Key×V)) (u3 u4:om V),σ= [u_ (-o.x),u_ (-gc.x),u3,u4]/\mm=Sy.mu #[Y,(n,p1)::r,don]/\Rnd a.qO a.qm H0 H H1 o #[Y,(n,p)::r,don] (plc gc st) gc s1 n p1 r fk1 top;?_
 rw[_,J_,(_,st,p,fk,U_,U_,1,1,h0)];rintro mm σ H1 ⟨s1,p1,fk1,u3,u4,rfl,rfl,O⟩;let aL:=BI hB hK O.kp O.tk hL;let aa:=hB.at aL;let au:∀b>plc gc s1,H0 b=none:=λb hb=>(O.pl b hb).elim (hL b) (·.2);erw[O.gi (n,p1) (.inl uj),hI,a1];let hI:GI p1:=hI;let aw:H1 o.du=u_ (.dK uk):=O.kp _ _ aK (λz=>by
  rcases Ab.mp z with z|z
  .have:=hB.nd;simp[LO] at this;exact this.2.1.2 z
  .exact(hB.new (hL _ z)).2.2.1 rfl)
 erw[id O.go,dx,fs,mv,av,rv,ev,e,f,i,j,a2,l];let a3:↑fs<1000:=by have:=f.len;omega
 rw[0,gc.x,_,dx,fs,0,e,T.qT,T.Q4,f.f_end,1,0];cases he:p1.en with
 |some d=>
  let l':Is H1 d ev:=by have:=l;rwa[O.rel.en,he] at this
  let aM:d≠ .non:=by rcases hI.en d he with⟨z,rfl⟩|⟨x,rfl,_⟩|⟨z,rfl⟩<;>(intro z;rw[z,0])
  refine iU (ub (Ze l' aM)) ?_;exact k _ H1 s1 p1 fk1 O (.inl ⟨1,by rw[he];rfl⟩)
 |none=>
  let l':Is H1 .non ev:=by have:=l;rwa[O.rel.en,he] at this
  rw[show ev= .non from l',0]
  refine lD (ua rfl) ?_
  rw[_,λσ' H'=>∃m',m'<Sy.mu #[Y,(n,p1)::r,don]/\J_ m' σ' H',λ_ _ h=>h];rw[8,B1,b1];let ax:gc.o≠gc.x:=by rw[aq];exact(hB.new (hL _ uj)).1.symm
  let ak:∀H2:Hp,(∀b ob,H1 b=u_ ob->b∉o.df::plc gc s1->H2 b=u_ ob)->∃dx fs,H2 gc.o=u_ (.ins a.qq dx fs)/\fs.lookup ("runner":Str)=none:=λH2 h2=>(_,_,(by rw[aq];exact h2 _ _ aa.e (λz=>by
   rcases Ab.mp z with z|z
   .have:=aa.e;rw[z,O.df,0] at this
   .exact(hB.new (au _ z)).1 rfl)),We o _ ())
  cases hw:yV p1 with
  |none=>
   rw[0,gc.x,dx,fs,1,e,f.meth _ ()]
   refine Ml (E:=E0) (qs:=qs) O.go O.rel hI he hw λrs rr kd z v ay al ac hz aA hv=>b1 _ _ ?_;rw[8,B2,b2];erw[id hv,q,ws,rfl,hq,w1,r1,rfl,[rfl,aN],w2,r2,rfl,[rfl,aB],h3];rw[show r2= [] from h3,0]
   rw[0,q,_,_,0,1,SqT.of hq,1,(sml rfl),λt ht=>?_];let s2:=qf ht (-[V.str "has",V.str "names"])
   rw[_,t,0,.inr (SqT.of qg),1,1,0];refine lD ((Agf kd).trans ac) ?_;erw[id aa.p,aO,dp,op,a4,hx,hd,hk,a5];let a6:↑z<=300:=by
    have:=Q3 hz;simp![iW,Qt,uB,uT] at this;exact this.1
   erw[BG hB.q z ac,a7,aP];generalize a8:upd H1 t (-[V.str "has",V.str "names"])=H2 at s2⊢;let fin:∀(u:V) (H3:Hp),ie H2 H3->Is H3 (Xi qs kd z) u->zk a.qO a.qm a.qq [-gc.x,u] H3 (λ_ H4=>∃m',m'<Sy.mu #[Y,(n,p1)::r,don]/\J_ m' [u_ (-o.x),u_ (-gc.x),u_ (-q),u4] H4) E0:=λu H3 s3 hu=>by
    let U:=s2.trans s3;refine D8 (O.go.same U) O.rel hI he hu (λaQ r' e'=>?_) ax (ak H3 λb ob h _=>U b ob h) λH4 s4 w4 G4 R4 aR=>?_
    .rw[ay] at e';rw[e',0];exact(kd,_,al,aP)
    .rw[<-aA] at R4;let kq:∀b ob,H3 b=u_ ob->b∉plc gc s1->H4 b=u_ ob:=λb ob h n=>w4.kept b ob h (λy=>n (by rw[y];exact uj)) (λmc r' y=>by
      unfold plc at n;rw[y] at n;simp![Acl,uH,uI,uU,Vs] at n;exact[n.2.1:n.2.2.1:n.2.2.2])
     erw[O.more hB hK hL (Kp.of U) (U _ _ O.df) (O.fd.mono U.tk) (UO _) kq w4.tk G4 R4 aR (Abp he hw),m1,m2,<-(_,m2,s4,_,fk1,_,0,1,m1)]
   rw[0,gc.x,dx,fs,1,s2 _ _ e,f.meth _ ()]
   rw[0,o.x,_,o.dx,_,0,s2 _ _ aa.e,T.qz,T.Qi,Abl o]
   rw[_,o.px,aO,0,s2 _ _ hx,Iw,0,o.px,q,kd,z,qs,1,aa.p.same s2,hB.q,s2 _ _ hq,()]
   let aC:kd="has"\/kd≠"has"/\kd="names":=by
    unfold CS at ac;by_cases c:kd="has"
    .exact .inl c
    .rw[ub c,rQ] at ac;exact .inr [c:uq ac]
   rcases aC with c|⟨c',c⟩
   .refine .inl [c:fin _ H2 (ie.refl _) ?_];unfold Xi;rw[A6 c];exact QJ (by split<;>decide)
   .refine .inr [c:λu H3 s3 hu=>fin u H3 s3 ?_];unfold Xi;rwa[A4 c']
  |some m=>
   erw[kz hI he hw,a9,al]
   rw[0,gc.x,dx,fs,1,e,f.meth _ ()]
   refine SE (E:=E0) O.go O.rel hI he hw λkd v H2 s2 ac hv=>b1 _ _ ?_;rw[8,B2,b2];erw[id hv,q,ws,rfl,hq,w1,r1,rfl,[rfl,aN],w2,r2,rfl,[rfl,aB],h3];rw[show r2= [] from h3,0]
   rw[0,q,_,_,0,1,SqT.of hq,1,(sml rfl),λt ht=>?_];let s3:=qf ht (-[V.str "has",V.str "names"])
   rw[_,t,0,.inr (SqT.of qg),1,1,0];refine iU ((Agf kd).trans ac) (b2 _ _ ?_);rw[8,B3,b3];generalize upd H2 t (-[V.str "has",V.str "names"])=H3 at s3⊢;let U:=s2.trans s3;let aD:=s3 _ _ hq;let aE:SGI #[Y,(n,p1)::r,don]:=O.gi
   rw[0,o.x,o.dx,0,U _ _ aa.e,We o _ ()]
   rw[0,q,_,_,0,1,SqT.of aD,1,o,m,qs,#[Y,(n,p1)::r,don],uk,fk1,1,[U _ _ aa.e:aa.p.same U],hB.q,aE,U _ _ aw,hU,U _ _ O.df,O.fd.mono U.tk,(by have:=O.len;omega),ap,λu H4 am k4 f4 d4 l4 aS y4=>?_]
   let ad:Kp [o.df] H1 H4:=(Kp.of U).trans k4;let aF:H4 q=u_ (-[V.str kd,V.str m]):=k4.tk.tup _ _ aD;let aU:o.df∉plc gc s1:=λz=>(hB.new (au _ z)).2.2.2.2 rfl;let G4:mq a.qO a.qm H4 gc s1:=O.go.frame (λb hb ob h=>ad.kept b ob h (λz=>aU (by rwa[<-Ac.mp z]))) ad.tk
   erw[id G4,ao,ae,ba,bb,bc,bd,e4,af,i4,j4,aG,bf];refine b3 _ _ ?_;rw[8,B4,b4]
   rw[0,1,0];unfold BZ at y4;cases hy:Sy.yet #[Y,(n,p1)::r,don] m with
   |none=>
    rw[hy] at y4;rw[show u= .non from y4,0]
    refine lD (ua rfl) (0,q,_,_,0,1,SqT.of aF,1,?_);refine k _ H4 s1 p1 am (O.st,(by rw[aS hy];exact O.len),λb ob h z=>ad.kept b ob (O.kp b ob h z) (λy=>z (by rw[Ac.mp y];exact uj)),O.tk.trans ad.tk,f4,d4,G4,O.rel,O.pl,O.gi) (.inr (m,1,he,hw,hy))
   |some oa=>
    rw[hy] at y4;erw[y4,d,hd,ha,_];let sh:∃kk rr,d= .tup (.str kk::rr):=by
     cases oa with
     |none=>erw[ha,kk,rr,h,_,<-[kk:rr:h]]|some x=>cases x with
      |none=>exact[_:_:ha]|some y=>exact[_:_:ha]
    erw[sh,kk,rr,rfl];erw[id hd,qa,wa,rfl,ag,w1,r1,rfl,[rfl,aZ],h3];refine iU (ub (λz=>by rw[z,0])) (b4 _ _ ?_)
    rw[0,qa,_,_,0,1,SqT.of ag,Qk (j:=0) rfl,1,0];let fin:∀(dd:D) (u:V),Is H4 dd u->Ju dd->Sy.nxt #[Y,(n,p1)::r,don]=⟨(n,yS p1 dd)::r,don⟩->zk a.qO a.qm a.qq [-gc.x,u] H4 (λ_ H5=>∃m',m'<Sy.mu #[Y,(n,p1)::r,don]/\J_ m' [u_ (-o.x),u_ (-gc.x),u_ (-q),u_ (-qa)] H5) E0:=λdd u hu hok ah=>by
     refine D8 G4 O.rel hI he hu (λaQ r' e'=>?_) ax (ak H4 λb ob h n=>ad.kept b ob h (λz=>n (by rw[Ac.mp z];exact uj))) λH5 s5 w5 G5 R5 aV=>?_
     .rcases al with⟨h1,_⟩|⟨rs,rr,h1,h2⟩
      .rw[h1] at e';rw[e',0]
      .rw[h1] at e';rw[e',0];exact("thing",_,h2,DR hok)
     .have kq:∀b ob,H4 b=u_ ob->b∉plc gc s1->H5 b=u_ ob:=λb ob h n=>w5.kept b ob h (λy=>n (by rw[y];exact uj)) (λmc r' y=>by
       unfold plc at n;rw[y] at n;simp![Acl,uH,uI,uU,Vs] at n;exact[n.2.1:n.2.2.1:n.2.2.2])
      erw[O.more hB hK hL ad f4 d4 l4 kq w5.tk G5 R5 aV ah,m1,m2,<-(_,m2,s5,_,am,_,0,1,m1)]
    cases oa with
    |some x=>
     let hok:=Oo hB.q aE hy;let ah:=Adz he hw hy;cases x with
     |some y=>
      rw[show D.tup (.str kk::rr)= .tup [-"value",y] from ha,0]
      erw[h3,w5,r5,rfl,h5,h6];rw[show r5= [] from h6,0]
      refine lD (ua rfl) ?_;exact(0,gc.x,ao,ae,1,e4,af.meth _ (),0,qa,_,_,0,1,SqT.of ag,1,fin y w5 h5 hok ah)
     |none=>
      rw[show D.tup (.str kk::rr)= .tup [-"lack"] from ha,0]
      refine iU () ?_
      rw[0,qa,_,_,0,1,SqT.of ag,Qk (j:=0) rfl,1,0];refine lD (ua rfl) ?_;exact(0,gc.x,ao,ae,1,e4,af.meth _ (),fin .non .non rfl hok ah)
    |none=>
     erw[ha,k2,r2,e5,c1,c2];rw[e5,0];refine iU (ub (λz=>c1 (V.str.inj z))) ?_
     rw[0,qa,_,_,0,1,SqT.of ag,Qk (j:=0) rfl,1,0];refine iU (ub (λz=>c2 (V.str.inj z))) ?_
     rw[0,q,_,_,0,1,SqT.of aF,1,(sml rfl),λt5 aH=>?_];let s5:=qf aH (-[V.str "stuck",V.str m]);let aI:↑ae<1000:=by have:=af.len;omega
     rw[0,gc.x,_,ao,ae,1,s5 _ _ e4,T.qT,T.Q4,aI];let aW:=Is.new (H:=H4) (ds:= [-"stuck",!m]) (p:=t5) (_,0,QJ (),_,0,[1:aB],1) aH
     erw[Kx (C:=a.qO) (CM:=a.qm) (g:=gc) (s:={s1 with en:= .tup [-"stuck",!m]}) (s5 _ _ e4) (af.set_end (u:=-t5)) (i4.mono s5.tk) (j4.mono s5.tk) (aG.same s5) aW,g1,g2]
     let aJ:nX gc {s1 with en:= .tup [-"stuck",!m]} (D9 p1 m):=(O.rel.n,O.rel.mb,O.rel.ra,O.rel.run,O.rel.own,1)
     let aX:Kp [o.df] H1 (upd H4 t5 (-[V.str "stuck",V.str m])):=ad.trans (Kp.of s5);obtain⟨m1,m2⟩:=O.more hB hK hL aX (s5 _ _ f4) (d4.mono s5.tk) l4 (λb ob h n=>g2.kept b ob h (λy=>n (by rw[y];exact uj))) g2.tk g1 aJ (λb hb=> .inl hb) (Abn he hw hy)
     exact(_,m2,_,_,am,_,0,1,m1)
abbrev Xg (CG CM:o3)(H:Hp)(ox:o3):oj (Gc×Gs)->oj (Str×Gp)->Prop
 | [],[]=>True|q::t,p::l=>mq CG CM H q.1 q.2/\nX q.1 q.2 p.2/\q.1.o=ox/\Xg CG CM H ox t l|_,_=>False
abbrev AaG:oj (Gc×Gs)->oj o3
 | []=> []|q::t=>plc q.1 q.2++AaG t
abbrev Sep:oj (Gc×Gs)->Prop
 | []=>True|q::t=>(∀b>plc q.1 q.2,b∉AaG t)/\Sep t
def Xg.frame {CG CM ox:o3}{H H':Hp}:∀{st:oj (Gc×Gs)}{l:oj (Str×Gp)},Xg CG CM H ox st l->(∀b>AaG st,∀ob,H b=u_ ob->H' b=u_ ob)->Tk H H'->Xg CG CM H' ox st l
 | [],[],_,_,_=>trivial| [],_::_,h,_,_=>h.elim|_::_,[],h,_,_=>h.elim|q::t,p::l,⟨h1,h2,h3,h4⟩,hk,tk=>(h1.frame (λb O=>hk b (vL _ O)) tk,h2,h3,Xg.frame h4 (λb O=>hk b (uV _ O)) tk)
def Xg.there {CG CM ox:o3}{H:Hp}:∀{st:oj (Gc×Gs)}{l:oj (Str×Gp)},Xg CG CM H ox st l->∀b>AaG st,∃ob,H b=u_ ob
 | [],[],_=>λb O=>by rw[O,0]| [],_::_,h=>h.elim|_::_,[],h=>h.elim|q::t,p::l,⟨h1,h2,h3,h4⟩=>λb O=>by
  rcases Ae.mp O with O|O
  .exact h1.there b O
  .exact Xg.there h4 b O
def Xg.len {CG CM ox:o3}{H:Hp}:∀{st:oj (Gc×Gs)}{l:oj (Str×Gp)},Xg CG CM H ox st l->↑st=↑l
 | [],[],_=>rfl| [],_::_,h=>h.elim|_::_,[],h=>h.elim|q::t,p::l,⟨h1,h2,h3,h4⟩=>by rw[uw,uw,Xg.len h4]
def CI {Y:Sy}:∀l:oj (Str×Y.G),↑l<=Sy.lfts l
 | []=>Vv _|(_,g)::r=>by
  have:=CI r;show ↑r+1<=Y.lft g+1+Sy.lfts r;omega
def Afp (O:yb qs)(n:Str):Sy.mu (Sy.S0 (SyP qs) n)<=20000:=by
 let U:=O.2.2;let hr:∀S:Sy.Ss (SyP qs),↑(Sy.rest S)<=60:=λS=>by
  let h1:↑(Sy.rest S)<=(#[15]).length:=U0 _ _;rw[uc] at h1;omega
 unfold Sy.mu;let h2:=hr (Sy.S0 (SyP qs) n);let h3:(SyP qs).M=302:=rfl;rw[h3];let h4:Sy.lfts (Sy.S0 (SyP qs) n).stk<=303:=by
  unfold Sy.S0;cases hg:(SyP qs).g0 n with
  |none=>exact uN _|some g=>
   have:=(QK qs).l0 n g hg;show(SyP qs).lft g+1+0<=303;let h3:(SyP qs).M=302:=rfl;omega
 omega
structure OI {qs:#[23]}(CG CM:o3)(H0 H:Hp)(o:Oc)(n0:Str)(S:Sy.Ss (SyP qs))(st:oj (Gc×Gs))(uk rk fk:oj (Key×V)):Prop where
 kp:Kp (LO o) H0 H
 nx:∃j,S=Sy.nx (Sy.S0 (SyP qs) n0) j
 ls:H o.ls=u_ (.lst (st.reverse.map λq=>V.ref q.1.x))
 du:H o.du=u_ (.dK uk)
 uo:Ab4 S uk
 ul:↑uk+Sy.mu S<=20001
 dr:H o.dr=u_ (.dK rk)
 rks:rk.map (·.1)=S.don.map λp=>Vx p.1
 rv:L2.IsL H (S.don.map λp=>xz p.2) (rk.map (·.2))
 rl:↑S.don+Sy.mu S<=20001
 df:H o.df=u_ (.dK fk)
 fd:DX H S fk
 fl:↑fk+Sy.mu S<=20001
 stk:Xg CG CM H o.x st S.stk
 new:∀b>AaG st,H0 b=U_
 sep:Sep st
 gi:SGI S
 fin:∀q>S.don,(Gp.en q.2).isSome=v_
 nd:(S.stk.map (·.1)++S.don.map (·.1)).Nodup
def Ab6 (n:Str)(j:Nat):((Sy.nx (Sy.S0 (SyP qs) n) j).stk.map (·.1)++(Sy.nx (Sy.S0 (SyP qs) n) j).don.map (·.1)).Nodup:=by
 cases O:(SyP qs).g0 n with
 |some g=>exact(Sy.nx_ok (QK qs) (Sy.S0_ok O) j).nd|none=>
  let e:Sy.nx (Sy.S0 (SyP qs) n) j=⟨[],[]⟩:=by
   let U:Sy.S0 (SyP qs) n=⟨[],[]⟩:=by unfold Sy.S0;rw[O]
   rw[U]
   induction j with
   |zero=>rfl|succ j ih=>show Sy.nxt _=_;rw[ih];rfl
  rw[e];exact vY
inductive SV (CO CP:Addr):Sp
 |mk (o:Oc)(qs:List (Str×D))(n:Str)(_:vs= [-o.x,!n])(_:Bs CO CP H o qs)(_:H o.ls=u_ (.lst []))(_:H o.du=u_ (.dK []))(_:H o.dr=u_ (.dK []))(_:H o.df=u_ (.dK []))(_:∀(H':Hp)(rk uk fk:List (Key×V))(don:List (Str×Gp))(j:Nat),H' o.du=u_ (.dK uk)->Ab4 #[Y,[],don] uk->H' o.df=u_ (.dK fk)->DX H' #[Y,[],don] fk->↑fk<=20001->SGI #[Y,[],don]->Kp (LO o) H H'->Sy.nx (Sy.S0 (SyP qs) n) j=⟨[],don⟩->H' o.dr=u_ (.dK rk)->(rk.map (·.1)=don.map λp=>Vx p.1)->L2.IsL H' (don.map λp=>xz p.2) (rk.map (·.2))->(∀p>don,GI p.2/\p.2.en.isSome=v_)->↑don<=20001->Q .non H')
def K0 {α:Type}{xs:oj α}{x:α}:atI (xs++ [x]) (-1)=u_ x:=by
 unfold atI ixN;let O:↑(xs++ [x])=↑xs+1:=by simp
 rw[A4 (),A6 ()]
 show(xs++ [x])[(-1+(↑(xs++ [x]):Int)).toNat]? =u_ x;rw[show(-1+(↑(xs++ [x]):Int)).toNat=↑xs by omega]
 simp
def OW {Y:Sy}(S:Sy.Ss Y)(i:Nat):∀j,Sy.nx S (i+j)=Sy.nx (Sy.nx S i) j
 |0=>rfl|j+1=>by show Sy.nxt (Sy.nx S (i+j))=Sy.nxt (Sy.nx (Sy.nx S i) j);rw[OW S i j]
def AdB {qs:#[23]}(S:Sy.Ss (SyP qs)):∀j,Sy.mu (Sy.nx S j)<=Sy.mu S
 |0=>Vv _|j+1=>by
  let h:=AdB S j;show Sy.mu (Sy.nxt (Sy.nx S j))<=_;by_cases c:(Sy.nx S j).stk= []
  .let e:Sy.nxt (Sy.nx S j)=Sy.nx S j:=by unfold Sy.nxt;rw[c]
   rwa[e]
  .have:=Sy.nxt_mu (QK qs) c;omega
def AaS:#[C,13,a.yB,a.yN,["self","name"],(SV a.qq a.qI)]:=by
 let Qa:=#[Cw,T];let jg:=#[No,T,C];let zu:=#[Adv,T,C];let XT:=#[E7,T];rw[9,T.iP,QM]
 erw[h,o,qs,n,rfl,hB,bG,bo,bH,bI,k];let hs:=uF;let hO:=hB.oa;rw[3,%[#[qK,#[qo,Yz,#[Qw,pv 0,T.qz,T.ik,Qa,#v[pv 1]],qY],%[|#[Qe,#[Qw,pv 0,T.qz,T.iN,jg,#v[pv 1]]]],qu]|#[xg,#[Co,3,#[qQ,5,pv 0,rfl],(λ_=>rfl)],%[#[qy,(2),QM.nd,#[qL,yu,#[qQ,5,pv 0,rfl],#[Adi,6,Os,qj]]],#[qy,(3),QM.nd,#[Qw,pv 0,T.qz,T.lq,zu,#v[pv 2]]]|#[qK,#[qo,Yz,pv 3,qY],%[#[Qe,#[ON,9,vh,PySem.F.slot_list_pop,PySem.F.type_list_pop,OY,#[qQ,5,pv 0,rfl],_,_]],#[Qe,#[MX,7,#[qQ,5,pv 0,rfl],#[qQ,5,pv 2,rfl],(1,1,1,1)]]|#[Qe,#[Qw,pv 0,T.qz,T.kw,XT,#v[pv 2]]]],%[|#[Qe,#[Qw,pv 0,T.qz,T.iN,jg,#v[pv 3]]]]]]]]]
 let bJ:=Afp hB.q n;rw[8,N,hN];let bK:∀(H1:Hp) (S:Sy.Ss (SyP qs)) (st:oj (Gc×Gs)) (uk rk fk:oj (Key×V)),OI a.qO a.qm H H1 o n S st uk rk fk->N [u_ (-o.x),u_ (!n),U_,U_] H1:=by
  intro H1 S st uk rk fk h1;refine hN _ _ ?_
  refine_lift let J_:Nat->L2.St->Hp->Prop:=λmm σ H2=>∃(S:Sy.Ss (SyP qs)) (st:oj (Gc×Gs)) (uk rk fk:oj (Key×V)) (u3 u4:om V),σ= [u_ (-o.x),u_ (!n),u3,u4]/\mm=Sy.mu S/\OI a.qO a.qm H H2 o n S st uk rk fk;?_
  rw[_,J_,(_,S,st,uk,rk,fk,U_,U_,1,1,h1)];clear h1 bo bH bI bG;rintro mm σ H2 ⟨S,st,uk,rk,fk,u3,u4,rfl,rfl,hI⟩;let bp:=hB.at hI.kp
  rw[0,o.x,_,o.dx,_,0,bp.e,T.qz,T.QF,Nu o,_,.inl [_:SqL.of hI.ls:1]];obtain⟨(stk:oj (Str×Gp)),(don:oj (Str×Gp))⟩:=S;let ax:Xg a.qO a.qm H2 o.x st stk:=hI.stk;cases st with
  |nil=>
   cases stk with
   |cons p l=>exact ax.elim|nil=>
    refine iU rfl ?_;erw[hI.nx,j,hj,<-k H2 rk uk fk don j hI.du hI.uo hI.df hI.fd (by have:=hI.fl;omega) hI.gi hI.kp hj.symm hI.dr hI.rks hI.rv (λp hp=>[(hI.gi p (.inr hp)).1:hI.fin p hp]) (by have:=hI.rl;let e:↑(#[Y,[],don].don)=↑don:=rfl;omega)]
  |cons q t=>
   erw[q,gc,gs];cases stk with
   |nil=>exact ax.elim|cons p l=>
    erw[p,O,p];erw[ax,hG,bq,bL,hT];let hG:mq a.qO a.qm H2 gc gs:=hG;let bq:nX gc gs p:=bq;let am:H2 o.ls=u_ (.lst ((t.reverse.map λq=>V.ref q.1.x)++ [V.ref gc.x])):=by
     have:=hI.ls;rwa[Vm,uA] at this
    refine lD (by rw[Vm,uA];show(!((HK _ t.reverse)++ [V.ref gc.x]).isEmpty)=v_;simp) ?_
    rw[_,λσ' H'=>∃m',m'<Sy.mu #[Y,(O,p)::l,don]/\J_ m' σ' H',λ_ _ h=>h];rw[8,B1,b1]
    rw[0,o.x,_,o.dx,_,0,bp.e,T.qz,T.QF,Nu o,0,o.ls,_,_,0,1,SqL.of am,K0,b1 _ _ ?_];rw[8,B2,b2];let ao:∀b>plc gc gs,H b=none:=λb U=>hI.new b (vL _ U);let ac:∀b>AaG t,H b=none:=λb U=>hI.new b (uV _ U);let bM:∃j,#[Y,(O,p)::l,don]=Sy.nx #[Y,(O,p)::l,don] j:=[(0):1]
    rw[0,o.x,o.dx,0,bp.e,We o _ (),0,H,o,qs,gc,gs,O,p,l,don,uk,fk,(20001),1,hB,hI.kp,hI.du,hI.uo,hI.fin,(),bL,ao,(bM,hI.fl,λ_ _ h _=>h,Tk.refl _,hI.df,hI.fd,hG,bq,λb U=> .inl U,hI.gi),λv H3 ak p3 ad hR hv=>?_]
    let aX:Sy.mu #[Y,(O,p3)::l,don]<=Sy.mu #[Y,(O,p)::l,don]:=by
     erw[hR.st,j,hj];let hj:#[Y,(O,p3)::l,don]=Sy.nx #[Y,(O,p)::l,don] j:=hj;rw[hj];exact AdB _ _
    let bN:∃j,#[Y,(O,p3)::l,don]=Sy.nx (Sy.S0 (SyP qs) n) j:=by
     erw[hR.st,j,hj];erw[hI.nx,i,hi];let hj:#[Y,(O,p3)::l,don]=Sy.nx #[Y,(O,p)::l,don] j:=hj;exact⟨i+j,by rwa[OW,<-hi]⟩
    let ap:Kp (LO o) H H3:=BI hB hI.kp hR.kp hR.tk ao;let ay:=hB.at ap;let aq:∀b>plc gc ak,H b=none:=λb U=>(hR.pl b U).elim (ao b) (·.2);let out:∀b,b>LO o->b≠o.df->b∉o.df::plc gc gs:=λb U hn z=>by
     rcases Ab.mp z with z|z
     .exact hn z
     .exact hB.nlo (ao b z) U
    let b5:o.ls≠o.du/\o.ls≠o.dr/\o.ls≠o.df/\o.du≠o.dr/\o.du≠o.df/\o.dr≠o.df:=by
     let h:=hB.nd;simp![LO,Ue,uH,uI,uU,Vs,vY,and_true,Vl] at h;exact(h.1.1,h.1.2.1,h.1.2.2,h.2.1.1,h.2.1.2,h.2.2)
    erw[b5,d1,d2,d3,d4,d5,d6];let af:=hR.kp _ _ am (out _ (by simp[LO]) d3)
    let aA:=hR.kp _ _ hI.du (out _ (by simp[LO]) d5)
    let aB:=hR.kp _ _ hI.dr (out _ (by simp[LO]) d6)
    let bu:Xg a.qO a.qm H3 o.x t l:=hT.frame (λb U ob h=>hR.kp b ob h (λz=>by
     rcases Ab.mp z with z|z
     .exact(hB.new (ac b U)).2.2.2.2 z
     .exact hI.sep.1 b z U)) hR.tk
    let bv:∀b>plc gc ak,b∉AaG t:=λb U z=>by
     rcases hR.pl b U with U|⟨U,_⟩
     .exact hI.sep.1 b U z
     .erw[hT.there b z,ob,e];rw[e,0] at U
    let b6:GI p3:=(hR.gi (O,p3) (.inl uj)).1;let aY:p3.n=O:=(hR.gi (O,p3) (.inl uj)).2;let bO:=hI.ul;let bP:=hR.len;let b7:=hI.rl;let cr:↑don+Sy.mu #[Y,(O,p)::l,don]<=20001:=b7;let b8:↑ad+Sy.mu #[Y,(O,p3)::l,don]<=20001:=bP;let aC:=Sy.nxt_mu (QK qs) (S:=#[Y,(O,p3)::l,don]) (by intro z;rw[z,0])
    let cs:↑rk=↑don:=by
     have:=Aa Gi hI.rks;rwa[uc,uc] at this
    let aD:H3 o.df=u_ (.dK ad):=hR.df;let aO:mq a.qO a.qm H3 gc ak:=hR.go;let ag:nX gc ak p3:=hR.rel;let aZ:DX H3 #[Y,(O,p3)::l,don] ad:=hR.fd;let ba:SGI #[Y,(O,p3)::l,don]:=hR.gi;erw[bN,i3,aP];refine b2 _ _ ?_
    rw[0,1,0];rcases hv with⟨rfl,au⟩|⟨m,rfl,au,hw,hy⟩
    ·
     refine lD (ua rfl) ?_;rw[8,C1,c1];obtain⟨d,hd⟩:∃d,p3.en=u_ d:=by
      cases h:p3.en with
      |none=>rw[h,0] at au|some d=>exact[d:1]
     let ae:=Abo (qs:=qs) (n:=O) (r:=l) (don:=don) hd
     rw[0,o.x,_,o.dx,_,0,ay.e,T.qz,T.QF,Nu o,.inl [1:_:SqL.of af]]
     rw[_,o.ls,_,V.ref gc.x,1,1,af,by simp]
     rw[List.dropLast_concat];let aa:Kp [o.ls,o.du] H3 (upd H3 o.ls (.lst (t.reverse.map λq=>V.ref q.1.x))):=⟨λb ob h n=>by rw[qk (λz=>n (by rw[z];exact uj))];exact h,ll.tk (p:=o.ls) (λb ob h n=>by rwa[qk n]) af qg⟩
     obtain⟨H4,aE⟩:∃H4,H4=upd H3 o.ls (.lst (t.reverse.map λq=>V.ref q.1.x)):=⟨0⟩;rw[<-aE] at aa⊢;refine c1 _ _ ?_;rw[8,C2,c2];let e4:H4 o.x=u_ (.ins a.qq o.dx (ofs o)):=by rw[aE,qk (λz=>by have:=ay.e;rw[z,af,0] at this)];exact ay.e
     let aF:H4 o.ls=u_ (.lst (t.reverse.map λq=>V.ref q.1.x)):=by rw[aE];exact qg
     let al:H4 o.du=u_ (.dK uk):=by rwa[aE,qk d1.symm]
     let bQ:∀b,H b=U_->b≠o.ls:=λb U=>(hB.new U).2.1;let b9:mq a.qO a.qm H4 gc ak:=aO.frame (λb U ob h=>by rwa[aE,qk (bQ b (aq b U))]) aa.tk
     erw[id b9,ca,cb,cu,cv,cw,cx,cc,f4,_];let aG:(lh uk (Vx gc.n)).isSome=true:=by
      rw[ag.n,aY];exact(hI.uo O).trans (ua uj)
     obtain⟨uv,ce⟩:∃uv,lh uk (Vx gc.n)=u_ uv:=by
      cases h:lh uk (Vx gc.n) with
      |none=>rw[h,0] at aG|some uv=>exact[uv:1]
     rw[0,o.x,_,o.dx,_,0,e4,T.qz,T.QB,Abj o,o.du,1,.inl [_:.inl al],0,gc.x,_,ca,cb,0,cc,T.qT,T.Yn,f4.ZY,uk,Vx gc.n,uv,al,1,ce];let ah:Kp [o.ls,o.du] H3 (upd H4 o.du (.dK (J1 uk (Vx gc.n)))):=aa.trans (Kp.updD al (ui _ uj));obtain⟨H5,bw⟩:∃H5,H5=upd H4 o.du (.dK (J1 uk (Vx gc.n))):=⟨0⟩;rw[<-bw] at ah⊢;refine c2 _ _ ?_;let bR:H5 o.du=u_ (.dK (J1 uk (Vx gc.n))):=by rw[bw];exact qg
     let bS:H5 o.ls=u_ (.lst (t.reverse.map λq=>V.ref q.1.x)):=by rwa[bw,qk d1]
     let aH:∀b,H b=U_->b∉ [o.ls,o.du]:=λb U z=>by
      simp![uH,uI,uU] at z;rcases z with z|z
      .exact(hB.new U).2.1 z
      .exact(hB.new U).2.2.1 z
     let cf:mq a.qO a.qm H5 gc ak:=aO.frame (λb U ob h=>ah.kept b ob h (aH b (aq b U))) ah.tk;let bT:H5 o.dr=u_ (.dK rk):=ah.kept _ _ aB (by simp![uH,uI,uU,Vs];exact[d2.symm:d4.symm])
     let bU:H5 o.df=u_ (.dK ad):=ah.kept _ _ aD (by simp![uH,uI,uU,Vs];exact[d3.symm:d5.symm])
     let aQ:∀b,b∉LO o->b∉ [o.ls,o.du]:=λb U z=>U (by simp![LO,uH,uI,uU] at z⊢;rcases z with z|z;exact .inl z;exact .inr (.inl z))
     let bx:Kp (LO o) H H5:=[λb ob h n=>ah.kept b ob (ap.kept b ob h n) (aQ b n):ap.tk.trans ah.tk];let bV:=hB.at bx
     rw[0,o.x,o.dx,0,bV.e,We o _ (),0,o,qs,gc,ak,p3,rk,ad,1,bV,cf,ag,b6,au,bT,(),bU,(),d6,λz=>(hB.new (aq _ z)).2.2.2.1 rfl,λz=>(hB.new (aq _ z)).2.2.2.2 rfl,λv1 v2 H6 aw aI i6 bb j6=>?_]
     let bW:∀b,b∉LO o->b∉ [o.dr,o.df]:=λb U z=>U (by simp![LO,uH,uI,uU] at z⊢;rcases z with z|z;exact .inr (.inr (.inl z));exact .inr (.inr (.inr z)))
     let cg:∀b,H b=U_->b∉ [o.dr,o.df]:=λb U=>bW b (hB.nlo U);let ch:Kp (LO o) H H6:=[λb ob h n=>aw.kept b ob (bx.kept b ob h n) (bW b n):bx.tk.trans aw.tk];let aJ:Tk H3 H6:=ah.tk.trans aw.tk;let bA:gc.n=O:=ag.n.trans aY;let aR:(#[Y,(O,p3)::l,don].stk.map (·.1)++#[Y,(O,p3)::l,don].don.map (·.1)).Nodup:=by
      rw[aP];exact Ab6 n i3
     let bc:(O::(l.map (·.1)++don.map (·.1))).Nodup:=aR;let aK:O∉don.map (·.1):=λz=>(List.nodup_cons.mp bc).1 (uV _ z);let bB:O∉l.map (·.1):=λz=>(List.nodup_cons.mp bc).1 (vL _ z);let ci:lh rk (Vx O)=none:=by
      cases h:lh rk (Vx O) with
      |none=>rfl|some v=>
       have h1:=SI h;rw[hI.rks] at h1;erw[Af.mp h1,q,hq,e];injection e with e
       exact A9 (Af.mpr [q:hq:e]) aK
     rw[bA] at aI bb;rw[qao v1 ci] at aI;let bX:↑uk+Sy.mu #[Y,(O,p)::l,don]<=20001:=bO;let cy:=C6 uk (Vx gc.n:Key);let cj:=Yh ad (Vx O:Key) v2;let a1:Ab4 #[Y,l,don++ [(O,p3)]] (J1 uk (Vx gc.n)):=by
      intro m';rw[wF];by_cases c:m'=O
      .rw[A6 (by rw[c,bA]),c]
       exact(ub bB).symm
      .rw[A4 (by rw[bA];exact λz=>c (UM z))]
       refine(hI.uo m').trans ?_;rw[vc];exact⟨λz=>by rcases Ab.mp z with z|z;exact A9 z c;exact z,λz=>ui _ z⟩
     let a2:(rk++ [((Vx O:Key),v1)]).map (·.1)=(don++ [(O,p3)]).map λq:Str×Gp=>(Vx q.1:Key):=by
      rw[uA,uA];have:=hI.rks;rw[this]
      rfl
     let a3:L2.IsL H6 ((don++ [(O,p3)]).map λq:Str×Gp=>xz q.2) ((rk++ [((Vx O:Key),v1)]).map (·.2)):=by
      rw[uA,uA];exact((hI.rv.mono (hR.tk.trans aJ))).append (L2.IsL.one i6)
     let a4:↑(don++ [(O,p3)])=↑don+1:=by rw[uE];rfl
     let a5:∀(m':Str) (g':Gp),g0D m' (qH qs m')=u_ g'->(∀g2:Gp,Sy.YQ (Y:=SyP qs) (don++ [(O,p3)]) m'=u_ g2->∃v,lh (mo ad (Vx O) v2) (Vx m')=u_ v/\Is H6 (QR (g2.en.getD .non)) v)/\(Sy.YQ (Y:=SyP qs) (don++ [(O,p3)]) m'=U_->lh (mo ad (Vx O) v2) (Vx m')=U_):=by
      intro m' g' ck;rw[zP];by_cases c:m'=O
      .have aL:Sy.YQ (Y:=SyP qs) (don++ [(O,p3)]) m'=(u_ p3:om Gp):=by
        have e1:(don.find? λq=>decide (q.1=m'))=none:=List.find?_eq_none.mpr λq hq e=>aK (by rw[<-c,<-uq e];exact TM hq)
        have e2:((don++ [(O,p3)]).find? λq:Str×Gp=>decide (q.1=m'))=u_ (O,p3):=by rw[pD,e1,c];simp
        show((don++ [(O,p3)]).find? λq:Str×Gp=>decide (q.1=m')).map (·.2)=u_ p3;rw[e2]
        rfl
       rw[_,λg2 e2=>?_,λz=>?_]
       .have e3:=aL.symm.trans e2;rw[e3,0];rw[A6 (by rw[c])]
        exact[v2:1:j6]
       .have e3:=aL.symm.trans z;rw[e3,0]
      .have aL:Sy.YQ (Y:=SyP qs) (don++ [(O,p3)]) m'=Sy.YQ (Y:=SyP qs) don m':=by
        have e2:((don++ [(O,p3)]).find? λq:Str×Gp=>decide (q.1=m'))=don.find? λq:Str×Gp=>decide (q.1=m'):=by
         rw[pD];have:([(O,p3)].find? λq:Str×Gp=>decide (q.1=m'))=none:=by simp;exact λz=>c z.symm
         rw[this,Option.or_none]
        show((don++ [(O,p3)]).find? λq:Str×Gp=>decide (q.1=m')).map (·.2)=(don.find? λq:Str×Gp=>decide (q.1=m')).map (·.2);rw[e2]
       rw[A4 (λz=>c (UM z))];let aM:(∀g2:Gp,Sy.YQ (Y:=SyP qs) don m'=u_ g2->∃v,lh ad (Vx m')=u_ v/\Is H6 (QR (g2.en.getD .non)) v)/\(Sy.YQ (Y:=SyP qs) don m'=U_->lh ad (Vx m')=U_):=(aZ.mono aJ) m' g' ck;exact[λg2 e2=>aM.1 g2 (aL.symm.trans e2):λz=>aM.2 (aL.symm.trans z)]
     let a6:Xg a.qO a.qm H6 o.x t l:=bu.frame (λb U ob h=>aw.kept b ob (ah.kept b ob h (aH b (ac b U))) (cg b (ac b U))) aJ;let a7:∀q>don++ [(O,p3)],q.2.en.isSome=true:=by
      intro q hq;rcases Ae.mp hq with hq|hq
      .exact hI.fin q hq
      .rw[Ac.mp hq,0];exact au
     let eN:Sy.nx (Sy.S0 (SyP qs) n) (i3+1)=Sy.nxt #[Y,(O,p3)::l,don]:=by show Sy.nxt (Sy.nx _ i3)=_;rw[<-aP]
     let a8:=Ab6 (qs:=qs) n (i3+1);rw[eN] at a8;let a9:=Iu hB.q ba;let bC:OI a.qO a.qm H H6 o n (Sy.nxt #[Y,(O,p3)::l,don]) t (J1 uk (Vx gc.n)) (rk++ [(Vx O,v1)]) (mo ad (Vx O) v2):=by
      rw[_,ch,[i3+1:eN.symm],aw.kept _ _ bS (by simp![uH,uI,uU,Vs];exact[d2:d3]),aw.kept _ _ bR (by simp![uH,uI,uU,Vs];exact[d4:d5]),?_,(),aI,?_,?_,?_,bb,?_,(),?_,ac,hI.sep.2,a9,?_,a8]
      .rwa[ae]
      .rwa[ae]
      .rwa[ae]
      .have e:(Sy.nxt #[Y,(O,p3)::l,don]).don.length=↑don+1:=by rwa[ae]
       omega
      .rwa[ae]
      .rwa[ae]
      .rwa[ae]
     exact(_,VP aC aX,_,t,_,_,_,_,0,1,bC)
    ·
     refine iU (ub (λz=>by rw[z,0])) ?_
     erw[Nw (qs:=qs) au hw hy,p',cm,ae];rw[ae] at aC;erw[Sy.zp hy,y1,_,y3];let bY:=CI (Y:=SyP qs) ((O,p3)::l);let aS:↑((O,p3)::l)<=Sy.mu #[Y,(O,p3)::l,don]:=uP bY (Fo _ _);let cz:↑t=↑l:=hT.len;let bX:↑uk+Sy.mu #[Y,(O,p)::l,don]<=20001:=bO
     rw[0,o.x,o.dx,0,ay.e,We o _ (),0,o,m,qs,_,uk,p',1,ay,hB.q,af,?_,aA,(),cm,λgn sn H4 aa aF al bD bE bF aU=>?_]
     .rw[uE,uc,vV,Uh];rw[uw] at aS;omega
     let aQ:∀b,b∉LO o->b∉ [o.ls,o.du]:=λb U z=>U (by simp![LO,uH,uI,uU] at z⊢;rcases z with z|z;exact .inl z;exact .inr (.inl z))
     let cn:Kp (LO o) H H4:=[λb ob h n=>aa.kept b ob (ap.kept b ob h n) (aQ b n):ap.tk.trans aa.tk];let aH:∀b,H b=U_->b∉ [o.ls,o.du]:=λb U=>aQ b (hB.nlo U);let aN:∀b>plc gn sn,H b=none:=λb U=>by
      have h3:=aU b U;cases h:H b with
      |none=>rfl|some ob=>
       by_cases c:b>LO o
       .simp![LO,uH,uI,uU] at c;rcases c with rfl|rfl|rfl|rfl
        .rw[af,0] at h3
        .rw[aA,0] at h3
        .rw[aB,0] at h3
        .rw[aD,0] at h3
       .rw[ap.kept b ob h c,0] at h3
     rw[_,_,VP aC aX,[(m,p')::(O,p3)::l:don],(gn,sn)::(gc,ak)::t,mo uk (Vx m) (.bl v_),rk,ad,_,0,1];let cj:=Yh uk (Vx m:Key) (.bl v_)
     rw[5]
     refine(cn,⟨i3+1,by show _=Sy.nxt (Sy.nx _ i3);rw[<-aP,ae]⟩,?_,al,?_,(),aa.kept _ _ aB (by simp![uH,uI,uU,Vs];exact[d2.symm:d4.symm]),hI.rks,hI.rv.mono (hR.tk.trans aa.tk),?_,aa.kept _ _ aD (by simp![uH,uI,uU,Vs];exact[d3.symm:d5.symm]),?_,(),?_,?_,?_,?_,hI.fin,?_)
     .rw[aF,Vm,Vm,uA,uA]
      rfl
     .intro m';rw[zP];by_cases c:m'=m
      .rw[A6 (by rw[c])]
       exact(ua (by rw[c];exact uj)).symm
      .rw[A4 (λz=>c (UM z))];refine(hI.uo m').trans ?_;rw[vc];exact⟨λz=>ui _ z,λz=>by rcases Ab.mp z with z|z;exact A9 z c;exact z⟩
     .show ↑don+_<=_;omega
     .exact aZ.mono aa.tk
     .exact(bD,bE,bF,aO.frame (λb U ob h=>aa.kept b ob h (aH b (aq b U))) aa.tk,ag,bL,bu.frame (λb U ob h=>aa.kept b ob h (aH b (ac b U))) aa.tk)
     .intro b U;rcases Ae.mp U with U|U
      .exact aN b U
      .rcases Ae.mp U with U|U
       .exact aq b U
       .exact ac b U
     .rw[_,λb U z=>?_,bv,hI.sep.2];let h3:=aU b U;rcases Ae.mp z with z|z
      .erw[aO.there b z,ob,e];rw[e,0] at h3
      .erw[bu.there b z,ob,e];rw[e,0] at h3
     .have:=Iu hB.q ba;rwa[ae] at this
     .have:=Ab6 (qs:=qs) n (i3+1);let e:Sy.nx (Sy.S0 (SyP qs) n) (i3+1)=⟨(m,p')::(O,p3)::l,don⟩:=by show Sy.nxt (Sy.nx _ i3)=_;rw[<-aP,ae]
      rwa[e] at this
 let u0:Ab4 #[Y,[],[]] []:=λm=>by rw[qav];rfl
 let f0:DX H #[Y,[],[]] []:=λm g hg=>⟨(λg' e=>by rw[e,0]),λ_=>qav⟩
 let g0:SGI #[Y,[],[]]:=λp hp=>by rcases hp with hp|hp<;>cases hp
 rw[0,o.x,o.dx,0,hO.e,We o _ (),0,o,n,qs,#[Y,[],[]],[],[],1,hO,hB.q,g0,bo,u0,bI,f0,(),(λ_ z=>by rw[z,0]),λv H1 fk1 k1 f1 d1 l1 bZ y1=>?_]
 let aR:=hB.nd;simp![LO,Ue,uH,uI,uU,Vs,vY,and_true,Vl] at aR;erw[aR,[n1,n2,n3],[n4,n5],n6];let aV:∀b,b≠o.df->b∉ [o.df]:=λb U z=>U (Ac.mp z);let aW:Kp (LO o) H H1:=⟨λb ob h z=>k1.kept b ob h (λy=>z (by rw[Ac.mp y];simp[LO])),k1.tk⟩
 let b3:=hB.at aW;let bd:=k1.kept _ _ bG (aV _ n3);let bf:=k1.kept _ _ bo (aV _ n5);let bg:=k1.kept _ _ bH (aV _ n6)
 rw[1,0];unfold BZ at y1;cases hg:(SyP qs).g0 n with
 |none=>
  let ey:Sy.yet #[Y,[],[]] n=u_ (u_ ((SyP qs).once n)):=by
   unfold Sy.yet;rw[A4 (by intro z;rw[z,0]),hg]
  rw[ey] at y1;erw[y1,d,i1,i2,_];let cp:d≠ .non:=by
   cases h:(SyP qs).once n with
   |none=>rw[h] at i2;intro z;rw[z,0] at i2|some x=>rw[h] at i2;intro z;rw[z,0] at i2
  refine iU (ub (Ze i1 cp)) ?_;let e0:Sy.S0 (SyP qs) n=⟨[],[]⟩:=by unfold Sy.S0;rw[hg]
  rw[e0] at bJ;let l1:↑fk1<=0+1:=l1;exact bK H1 [[]:[]] [] [] [] fk1 (aW,[(0):e0.symm],bd,bf,u0,(by show 0+_<=_;omega),bg,1,1,(by show 0+_<=_;omega),f1,d1,(),trivial,(λb U=>by rw[U,0]),trivial,g0,(λq hq=>by rw[hq,0]),vY)
 |some p=>
  let ey:Sy.yet #[Y,[],[]] n=none:=by
   unfold Sy.yet;rw[A4 (by intro z;rw[z,0]),hg]
   rfl
  rw[ey] at y1;rw[show v= .non from y1,0]
  refine lD (ua rfl) ?_;let e0:Sy.S0 (SyP qs) n=⟨[(n,p)],[]⟩:=by unfold Sy.S0;rw[hg]
  rw[e0] at bJ;let bZ:↑fk1=0:=bZ ey
  rw[0,o.x,o.dx,0,b3.e,We o _ (),0,o,n,qs,[],[],p,1,b3,hB.q,bd,(),bf,(),hg,λgn sn H2 k2 am b4 bD bE bF aU=>?_]
  let cq:Kp (LO o) H H2:=⟨λb ob h z=>k2.kept b ob (aW.kept b ob h z) (λy=>z (by simp![LO,uH,uI,uU] at y⊢;rcases y with y|y;exact .inl y;exact .inr (.inl y))),aW.tk.trans k2.tk⟩
  let aN:∀b>plc gn sn,H b=none:=λb U=>by
   let h3:=aU b U;cases h:H b with
   |none=>rfl|some ob=>
    by_cases c:b=o.df
    .rw[c,f1,0] at h3
    .rw[k1.kept b ob h (aV b c),0] at h3
  let bh:∀b,b≠o.ls->b≠o.du->b∉ [o.ls,o.du]:=λb h1 h2 z=>by
   simp![uH,uI,uU] at z;rcases z with z|z
   .exact h1 z
   .exact h2 z
  refine bK H2 [[(n,p)]:[]] [(gn,sn)] (mo [] (Vx n) (.bl v_)) [] fk1 (cq,[(0):e0.symm],am,b4,?_,?_,k2.kept _ _ bg (bh _ (Uv n2) (Uv n4)),1,1,(by show 0+_<=_;omega),k2.kept _ _ f1 (bh _ (Uv n3) (Uv n5)),d1.mono k2.tk,(),(bD,bE,bF,trivial),?_,⟨λb U z=>(by rw[z,0]),trivial⟩,?_,(λq hq=>by rw[hq,0]),?_)
  .intro m';rw[zP];by_cases c:m'=n
   .rw[A6 (by rw[c])]
    exact(ua (by rw[c];exact uj)).symm
   .rw[A4 (λz=>c (UM z)),qav];exact(ub (λz=>c (Ac.mp z))).symm
  .have:=Yh [] (Vx n:Key) (.bl v_);rw[TC] at this;omega
  .intro b U;rcases Ae.mp U with U|U
   .exact aN b U
   .rw[U,0]
  .intro q hq;rcases hq with hq|hq
   .rw[Ac.mp hq,0];exact AC hB.q hg
   .rw[hq,0]
  .exact List.nodup_cons.mpr ⟨(λz=>by rw[z,0]),vY⟩
end
namespace Sy
variable {Y:Sy}
end Sy
section
variable {qs qs':#[23]}
nonrec abbrev FP (qs:#[23]):Sy.Orc:=Sy.F (SyP qs)
nonrec abbrev itP (qs:#[23]) (k:Nat) (g:Gp):Gp:=Sy.it (SyP qs) (FP qs) k g
abbrev W3 (p:Gp):oj D:=p.ra++runPG' p.run
where runPG':om (oj Rw×Rn)->oj D
 |none=> []|some (_,r)=>r.gs
abbrev GA (g:Gp):Prop:=g.run=U_->g.en=U_->g.ra= []
def Bn {rs:oj Rw}{own:Str}{gs:oj D}:∀(f:Nat) (B:Str->D) (p:Int) (n:Nat),(lC rs own gs f B p n).gs=gs
 |0,B,p,n=>rfl|f+1,B,p,n=>by
  unfold lC;by_cases c:GT.gt p (↑rs)
  .rw[A6 c]
  .rw[A4 c];cases U:lE own (Q0 rs p) B p with|go O p'=>exact Bn f O p' (n+1)|stop e=>rfl
def Ab2 {r:Rn}{a:D}:(mX rs own r a).gs=r.gs++ [-[Wn r.th,a]]:=by
 unfold mX;split
 .rfl
 .exact Bn _ _ _ _
def Dc (h:g.run=U_)(d:D):W3 (nw g d)=g.ra/\GA (nw g d):=by
 unfold nw;split
 .rw[_,?_,λ_ z=>by rw[z,0]]
  show g.ra++W3.runPG' g.run=g.ra;rw[h];exact vg _
 .cases hd:yf d with
  |none=>
   rw[_,?_,λ_ z=>by rw[z,0]]
   show g.ra++W3.runPG' g.run=g.ra;rw[h];exact vg _
  |some rs=>
   rw[_,?_,λz=>by rw[z,0]]
   show g.ra++(R0 rs g.n).gs=g.ra;rw[show(R0 rs g.n).gs= [] from Bn _ _ _ _]
   exact vg _
def AY (ha:GA g)(he:g.en=U_)(d:D):W3 (yS g d)=W3 g++ [-[xy g,d]]/\GA (yS g d):=by
 unfold yS;cases O:g.run with
 |none=>
  let U:=ha O he;erw[Dc (g:=(g.n,g.mb,[-[-[-"rule",g.mb],d]],U_,g.en)) rfl d,h1,h2];rw[_,h1.trans ?_,h2];let e1:W3 g= []:=by unfold W3;rw[U,O];rfl
  let e2:xy g=-[-"rule",g.mb]:=by unfold xy;rw[O]
  rw[e1,e2]
  rfl
 |some p=>
  erw[p,rs,r];rw[_,?_,λz=>by rw[z,0]]
  show g.ra++(mX rs g.n r d).gs=W3 g++_;let e2:xy g=Wn r.th:=by unfold xy;rw[O]
  let e3:W3 g=g.ra++r.gs:=by unfold W3;rw[O];rfl
  rw[Ab2,e2,e3,Ut]
def AdV {d:D}(h:g0D m d=u_ g):GA g/\W3 g= []:=by
 unfold g0D at h;split at h
 .split at h
  .rw[h,0]
  .split at h
   .rw[h,0];exact[λ_ _=>rfl:1]
   .rw[h,0];erw[Dc (g:=(m,.non,[],U_,U_)) rfl _,h1,h2,<-[h2:h1]]
 .rw[h,0]
def E4 (U:yb qs)(O:g0D m (qH qs m)=U_):Ju ((Ai (qH qs m)).getD .non):=by
 by_cases hm:m>#[15]
 .erw[JK U hm,hn,k,e,hd,h1,h2];rw[hd] at O⊢;unfold g0D at O;simp only at O;by_cases c:k="leaf"
  .exact .inr (h2 (by rw[c];rw[12])).2
  .rw[A4 c] at O;split at O<;>cases O
 .rw[Yi hm];exact .inl rfl
variable {f:Sy.Orc}
def Eb (hq:yb qs)(hf:∀m a,f m=u_ a->Ju (a.getD .non))(h:GI g)(ha:GA g):GI (Sy.step (SyP qs) f g)/\GA (Sy.step (SyP qs) f g):=by
 let e:Sy.step (SyP qs) f g=if g.en.isSome=v_ then g else match yV g with
  |none=>nZ qs g|some m=>match f m with
   |some a=>yS g (a.getD .non)|none=>D9 g m:=rfl
 rw[e];cases O:g.en with
 |some d=>exact[h:ha]|none=>
  simp![PH,A4 uh];cases U:yV g with
  |none=>
   erw[qat (qs:=qs) h O U,rs,r,k,z,_,_,hk,_,e];rw[_,Ll hq h O U];show GA (nZ qs g);rw[e];exact(AY ha O _).2
  |some m=>
   simp only;cases hm:f m with
   |some a=>exact[qaD h O (hf m a hm):(AY ha O _).2]|none=>exact⟨Lk h m,λ_ z=>by rw[z,0]⟩
def AbC (O:yb qs){f:Sy.Orc}(U:∀m a,f m=u_ a->Ju (a.getD .non)):∀(k:Nat) {g:Gp},GI g->GA g->GI (Sy.it (SyP qs) f k g)/\GA (Sy.it (SyP qs) f k g)
 |0,g,h,ha=>[h:ha]|k+1,g,h,ha=>AbC O U k (Eb O U h ha).1 (Eb O U h ha).2
def AeF (U:yb qs):∀(k:Nat) (m:Str) (a:om D),Sy.Fh (SyP qs) k m=u_ a->Ju (a.getD .non)
 |0,m,a,h=>by
  cases O:(SyP qs).g0 m with
  |none=>rw[Sy.XH O,0] at h;exact E4 U O|some g=>rw[Sy.Wz O,0] at h
 |k+1,m,a,h=>by
  cases O:(SyP qs).g0 m with
  |none=>rw[Sy.XH O,0] at h;exact E4 U O|some g=>
   rw[Sy.KJ O] at h;let aa:=AbC U (AeF U k) 302 (AC U O).1 (AdV O).1;cases hs:(SyP qs).said (Sy.it (SyP qs) (Sy.Fh (SyP qs) k) (SyP qs).M g) with
   |none=>rw[hs,0] at h|some v=>
    rw[hs,0] at h;exact .inr (Bk aa.1 hs)
def AgW (O:yb qs)(m:Str)(a:om D)(h:FP qs m=u_ a):Ju (a.getD .non):=by
 erw[(Sy.F_iff (QK qs)).mp h,k,h,<-AeF O k m a h]
def Se (O:yb qs)(U:g0D m (qH qs m)=u_ g)(k:Nat):GI (itP qs k g)/\GA (itP qs k g):=AbC O (AgW O) k (AC O U).1 (AdV U).1
end
abbrev Dn (qs:#[23])(n:Str)(don:oj (Str×Gp)):Prop:=∃j,Sy.nx (Sy.S0 (SyP qs) n) j=[[]:don]
section
variable {qs:#[23]}{n:Str}{don don':oj (Str×Gp)}
def Ad6 (h:Dn qs n don)(k:Dn qs n don'):don=don':=by
 erw[h,i,hi];erw[k,j,O];let e:=Sy.nx_one (S:=Sy.S0 (SyP qs) n) (k:=i) (j:=j) (by rw[hi]) (by rw[O])
 rw[hi,O] at e;exact Aa Sy.Ss.don e
def LG (O:g0D n (qH qs n)=U_)(h:Dn qs n don):don= []:=by
 let U:Sy.S0 (SyP qs) n=⟨[],[]⟩:=by unfold Sy.S0;rw[show(SyP qs).g0 n=U_ from O]
 exact Ad6 h [(0):U]
def AbS (O:g0D n (qH qs n)=u_ g)(h:Dn qs n don):Sy.SOk (Y:=SyP qs) n [[]:don]:=by
 erw[h,j,U];rw[<-U];exact Sy.nx_ok (QK qs) (Sy.S0_ok O) j
def AbT (O:g0D n (qH qs n)=u_ g)(h:Dn qs n don):(don.map (·.1)).getLast? =u_ n:=by
 rcases(AbS O h).bot with b|⟨_,b⟩
 .rw[b,0]
 .exact b
def Sn (h:Dn qs n don){p:Str×Gp}(O:p>don):∃s,g0D p.1 (qH qs p.1)=u_ s/\p.2=Sy.it (SyP qs) (Sy.F (SyP qs)) 302 s:=by
 cases U:g0D n (qH qs n) with
 |none=>rw[LG U h,0] at O|some g=>exact(AbS U h).don p O
def Ad7 (h:Dn qs n don):(don.map (·.1)).Nodup:=by
 cases O:g0D n (qH qs n) with
 |none=>rw[LG O h];exact vY|some g=>exact(AbS O h).nd
end
variable {don:oj (Str×Gp)}
def Ad5 {n:Str}(h:Dn qs n don)(hm:g0D m (qH qs m)=U_\/m>don.map (·.1)):Sy.yet #[Y,[],don] m=u_ (FP qs m):=by
 cases U:(SyP qs).g0 m with
 |none=>
  unfold Sy.yet;rw[A4 (by intro z;rw[z,0]),U]
  show u_ (u_ ((SyP qs).once m))=u_ (FP qs m);rw[show FP qs m=_ from Sy.Kf (QK qs) U]
 |some g=>
  rcases hm with hm|hm
  .rw[show(SyP qs).g0 m=U_ from hm,0] at U
  .erw[Af.mp hm,[O,p],hp,rfl];let hd:Sy.YQ (Y:=SyP qs) don O=u_ p:=by
    let aa:=Ad7 h;unfold Sy.YQ;have:(don.find? λq=>decide (q.1=O))=u_ (O,p):=by
     clear h hm
     induction don with
     |nil=>rw[hp,0]|cons q r ih=>
      rw[ur,Ue] at aa;rcases Ab.mp hp with rfl|hp
      .rw[uS,ua rfl]
      .have ac:q.1≠O:=λz=>aa.1 (by rw[z];exact Af.mpr [_:hp:1])
       rw[uS,ub ac];exact ih hp aa.2
    let e2:(pY (λq:Str×Gp=>decide (q.1=O)) don).map (·.2)=u_ p:=by rw[this];rfl
    exact e2
   erw[Sn h hp,s,e2,e3];let e2:(SyP qs).g0 O=u_ s:=e2;rw[U,0] at e2;unfold Sy.yet;rw[A4 (by intro z;rw[z,0]),U]
   show(Sy.YQ (Y:=SyP qs) don O).map (λg=>((SyP qs).said g).map u_)=u_ (FP qs O);rw[hd];show u_ (((SyP qs).said p).map u_)=u_ (FP qs O);rw[show FP qs O=_ from Sy.F_run (QK qs) U]
   let e3:p=Sy.it (SyP qs) (Sy.F (SyP qs)) 302 g:=e3;rw[e3]
   rfl
end K20
namespace K20
open PySem L2 PyProof.Rows
structure Acp (CO CP:o3)(H0 H:Hp)(qs:#[23])(n:Str)(o:Oc)(rk uk fk:oj (Key×V))(don:oj (Str×Gp)):Prop where
 sm:ie H0 H
 oa:OAt CO CP H o qs
 dr:H o.dr=u_ (.dK rk)
 ks:rk.map (·.1)=don.map λp=>Vx p.1
 vs:L2.IsL H (don.map λp=>xz p.2) (rk.map (·.2))
 du:H o.du=u_ (.dK uk)
 uo:Ab4 #[Y,[],don] uk
 df:H o.df=u_ (.dK fk)
 fd:DX H #[Y,[],don] fk
 fl:↑fk<=20101
 dn:Dn qs n don
 sg:SGI #[Y,[],don]
 gi:∀p>don,GI p.2/\p.2.en.isSome=v_
 len:↑don<=20001
 new:H0 o.x=U_/\H0 o.dr=U_/\H0 o.du=U_/\H0 o.df=U_
 ne:o.dr≠o.df/\o.du≠o.df
inductive AcP (bn:Addr):Sp
 |mk (z:Str)(_:vs= [!z])(hz:↑z<=1000)(_:nm z=v_->∀H',ie H H'->Q .non H')(_:nm z=Vt->∀(e:Addr)(H':Hp),ie H H'->E_ (-e) (u_ bn) H')
inductive Aaj (bn:Addr):Sp
 |mk (t:Addr)(z:Str)(_:vs= [-t])(_:H t=u_ (-[!z]))(hz:↑z<=1000)(_:nm z=v_->∀H',ie H H'->Q .non H')(_:nm z=Vt->∀(e:Addr)(H':Hp),ie H H'->E_ (-e) (u_ bn) H')
inductive S6 (CO CP bn:Addr):Sp
 |mk (px t:Addr)(n:Str)(qs:List (Str×D))(_:vs= [-px,-t])(_:H t=u_ (-[!n]))(hz:↑n<=1000)(_:yX CP H px qs)(_:yb qs)(_:nm n=v_->∀H' o rk uk fk don,o.px=px->Acp CO CP H H' qs n o rk uk fk don->↑fk<=20001->Q (-o.x) H')(_:nm n=Vt->∀(e:Addr)(H':Hp),ie H H'->E_ (-e) (u_ bn) H')
inductive Aai (CO CP bn:Addr):Sp
 |mk (px:Addr)(n:Str)(qs:List (Str×D))(_:vs= [-px,!n])(hz:↑n<=1000)(_:yX CP H px qs)(_:yb qs)(_:nm n=v_->∀H' o rk uk fk don,o.px=px->Acp CO CP H H' qs n o rk uk fk don->↑fk<=20001->Q (-o.x) H')(_:nm n=Vt->∀(e:Addr)(H':Hp),ie H H'->E_ (-e) (u_ bn) H')
variable {qs:#[23]}{don:oj (Str×Gp)}
def AbR {n:Str}(h:Dn qs n don):g0D n (qH qs n)=U_\/n>don.map (·.1):=by
 cases O:g0D n (qH qs n) with
 |none=>exact .inl rfl|some g=>exact .inr (List.mem_of_getLast? (AbT O h))
section
variable {P:o9}{w:og}{K:o0}{mg:Str->om o6}{base:o8}{a:Ad}{g:Ga}
def Adx (T:Tx K mg a)(C:Fx K w mg g a):FnOk P w K mg base (CX1 P w) 2 a.ZW a.Z4 ["name"] (AcP g.bn):=by
 let O:=#[Zf,T];refine T.mS.F.okX qaV () (λ_ _ _ _ H _ Q E U h=>?_)
 erw[h,z,rfl,aa,k1,k2];rw[3,%[|#[qK,#[Qv,#[Qh,#[qr,O,U.mono (),T.iV,qG,#v[pv 0]]]],%[|#[KU,22,C.x_BadName,_,C.wV,qh,_,_]],qu]]]
 rw[0,!z,!z,1,QJ (),λH1 s1=>[0:?_]]
 let e:mO (!z)=nm z:=rfl;rw[e];cases hn:nm z with
 |false=>exact lG [1:λe=>k2 hn e H1 s1]|true=>exact iX (k1 hn H1 s1)
def Abg (T:Tx K mg a)(C:Fx K w mg g a):FnOk P w K mg base (CX1 P w) 3 a.ze a.XU ["names"] (Aaj g.bn):=by
 let O:=#[Adx,T,C];refine T.mI.F.okX xN () (λ_ _ _ _ H _ Q E hr h=>?_)
 erw[h,t,z,rfl,ht,U,k1,k2];rw[3,%[|#[YH,8,Pz,rfl,#[Cq,4,pv 0],#[qW,(1),xN.nd],%[|#[Qe,#[qr,O,#[20],T.mS,zO,#v[pv 1]]]],_]]]
 rw[0,t,1,[_:SqT.of ht]];refine qaI (xs:= [!z]) (λi σ H'=>(∃u,σ= [u_ (-t),u])/\ie H H'/\(i=1->nm z=v_)) ⟨⟨0⟩,ie.refl _,λz=>(by rw[z,0])⟩ (λi σ H' _ h=>SqT.of (h.2.1 _ _ ht)) ?_ ?_
 .rintro i x σ H' hx ⟨⟨u,rfl⟩,s1,_⟩;let aa:x= .str z/\i=0:=by
   cases i with
   |zero=>exact[(uJ hx).symm:1]|succ i=>rw[hx,0]
  erw[aa,rfl,rfl,<-(0,z,1,U,λhn H2 s2=>[⟨0⟩:s1.trans s2:λ_=>hn],λhn e H2 s2=>k2 hn e H2 (s1.trans s2))]
 .rintro σ H' ⟨_,s1,hn⟩;exact k1 (hn rfl) H' s1
def Aa2 (T:Tx K mg a)(C:Fx K w mg g a):FnOk P w K mg base (CX1 P w) 14 a.Z5 a.ZG ["project","names"] (S6 a.qq a.qI g.bn):=by
 let au:=#[Abg,T,C];let zZ:=#[Nc,T];let jJ:=#[AaS,T,C];refine T.mQ.F.okX jM () (λ_ _ _ _ H _ Q E hr h=>?_)
 erw[h,px,t,n,qs,rfl,ht,aw,hP,hq,k1,k2];rw[3,%[#[Qe,#[qr,au,#[20],T.mI,zO,#v[pv 1]]],#[qy,(2),jM.nd,#[Jq,T.M_PlainOrder,zZ,#[20],T.m_PlainOrder,T.lS,qG,#v[pv 0]]],#[YH,8,Pz,rfl,#[Cq,4,pv 1],#[qW,(3),jM.nd],%[|#[Qe,#[Qw,pv 2,T.qz,T.iP,jJ,#v[pv 3]]]],_]|#[qp,pv 2]]]
 rw[8,N1,q1]
 rw[0,t,n,1,ht,aw,λhn H1 s1=>q1 _ _ ?_,k2];rw[8,N2,q2]
 rw[0,λx dx hx ax nx=>?_];let s0:ie H1 (upd (upd H1 dx (.own x)) x (.ins a.qq dx [])):=λb o h=>by rwa[qk (qi h hx),qk (qi h ax)]
 rw[_,x,dx,px,1,qg,λo H2 eo ay aA kp tk f1 f2 f3 f4 nd ad ae af ag ah=>[1:q2 _ _ ?_]];rw[8,N3,q3];let aB:ie H1 H2:=λb ob h=>kp b ob (s0 b ob h) (qi h hx);let O:=s1.trans aB;let ak:=O _ _ ht;subst eo ay aA;let hB:Bs a.qq a.qI H2 o qs:=([ad:hP.same O],[_:ae],[_:af],[_:ag],[_:ah],nd,hq)
 rw[0,t,1,[_:SqT.of ak]];let fr:∀b,upd (upd H1 o.dx (.own o.x)) o.x (.ins a.qq o.dx []) b=U_->H b=none:=λb U=>by
  cases e:H b with
  |none=>rfl|some ob=>rw[s0 b ob (s1 b ob e),0] at U
 refine_lift let J_:Nat->L2.St->Hp->Prop:=λi σ H'=>(∃u,σ= [u_ (-o.px),u_ (-t),u_ (-o.x),u])/\((i=0/\H'=H2)\/(i=1/\∃rk uk fk don,Acp a.qq a.qI H H' qs n o rk uk fk don/\↑fk<=20001));?_
 refine qaI (xs:= [!n]) J_ [⟨0⟩:.inl [1:1]] (λi σ H' _ h=>?_) ?_ ?_
 .rcases h.2 with⟨_,rfl⟩|⟨_,rk,uk,fk,don,h,_⟩
  .exact SqT.of ak
  .exact SqT.of (h.sm _ _ ht)
 .rintro i x' σ H' al ⟨⟨u,rfl⟩,h⟩;let aa:x'= .str n/\i=0:=by
   cases i with
   |zero=>exact[(uJ al).symm:1]|succ i=>rw[al,0]
  erw[aa,rfl,rfl];rcases h with⟨_,rfl⟩|⟨z,_⟩
  .rw[0,o.x,o.dx,0,ad,We o _ (),0,o,qs,n,1,hB,ae,af,ag,ah,λH3 rk uk fk don j am aC ao aD aE aF k3 aG ap aH aI aJ aq=>?_]
   let out:∀b,H b≠U_->b∉LO o:=λb U z=>by
    simp![LO,uH,uI,uU] at z;rcases z with rfl|rfl|rfl|rfl
    .exact U (fr _ f1)
    .exact U (fr _ f2)
    .exact U (fr _ f3)
    .exact U (fr _ f4)
   let ac:=nd;simp![Ue,uH,uI,uU,Vs,vY,and_true,Vl] at ac;let aa:H o.x=none:=by
    cases e:H o.x with
    |none=>rfl|some ob=>rw[s1 _ _ e,0] at hx
   exact⟨⟨0⟩,.inr (1,rk,uk,fk,don,(λb ob e=>k3.kept b ob (O b ob e) (out b (by rw[e];intro z;rw[z,0])),hB.at k3,ap,aH,aI,am,aC,ao,aD,(),[j:aG],aF,aJ,aq,(aa,fr _ f3,fr _ f2,fr _ f4),[ac.2.2:ac.2.1.2]),aE)⟩
  .rw[z,0]
 .rintro σ H' ⟨⟨u,rfl⟩,h⟩;rcases h with⟨z,_⟩|⟨_,rk,uk,fk,don,h,hl⟩
  .rw[z,0]
  .exact q3 _ _ [0:k1 hn H' o rk uk fk don rfl h hl]
def qah (T:Tx K mg a)(C:Fx K w mg g a):FnOk P w K mg base (CX1 P w) 15 a.ZP a.ZM ["project","name"] (Aai a.qq a.qI g.bn):=by
 let O:=#[Aa2,T,C];refine T.iR.F.okX KR () (λ_ _ _ s H _ Q E hr h=>?_)
 erw[h,px,n,qs,rfl,U,hP,hq,k1,k2];let hs:=uF;rw[3,%[|#[qp,#[qr,O,#[20],T.mQ,zO,#v[pv 0,#[qE,#v[pv 1]]]]]]]
 rw[0,0,(sml rfl),λt ht=>?_];let s1:=qf ht (-[V.str n]);exact(px,t,n,qs,1,qg,U,hP.same s1,hq,λhn H' o rk uk fk don e h hl=>k1 hn H' o rk uk fk don e (s1.trans h.sm,h.oa,h.dr,h.ks,h.vs,h.du,h.uo,h.df,h.fd,h.fl,h.dn,h.sg,h.gi,h.len,(s1.free h.new.1,s1.free h.new.2.1,s1.free h.new.2.2.1,s1.free h.new.2.2.2),h.ne) hl,λhn e H' s'=>k2 hn e H' (s1.trans s'))
end
abbrev j3 (H:Hp)(d:o3)(ps:#[23]):Prop:=∃vs:oj (Str×V),H d=u_ (.dK (iy vs))/\vs.map (·.1)=#[17]/\L2.IsL H (ps.map (·.2)) (vs.map (·.2))
variable {H H':Hp}{ps:#[23]}
def j3.same {d:o3}(h:j3 H d ps)(s:ie H H'):j3 H' d ps:=by
 erw[h,vs,h1,h2,h3,<-(vs,s _ _ h1,h2,h3.mono s.tk)]
abbrev Bd {β:Type}(ps:oj (Str×β))(z:Str)(e:β):oj (Str×β):=ps.map λp=>if p.1=z then(p.1,e) else p
abbrev nS {β:Type}(ps:oj (Str×β))(z:Str)(e:β):oj (Str×β):=if z>#[17] then Bd ps z e else ps++ [(z,e)]
def Br (vs:oj (Str×V))(z:Str)(v:V):mo (iy vs) (Vx z) v=iy (nS vs z v):=by
 unfold nS;by_cases c:z>vs.map (·.1)
 .rw[A6 c];unfold mo;rw[A6]
  .unfold iy Bd;rw[uR,uR];refine Uz λp _=>?_;by_cases h:p.1=z
   .simp[h]
   .simp[h]
  .unfold iy;rw[tL,Fc];erw[Af.mp c,p,O,e,<-⟨p,O,by simp[e]⟩]
 .rw[A4 c,qao _ (DG c)];unfold iy;rw[uA]
  rfl
def Eu {H:Hp}{z:Str}{O:D}{u:V}(U:Is H O u):∀{ps:#[23]}{vs:oj (Str×V)},vs.map (·.1)=#[17]->L2.IsL H (ps.map (·.2)) (vs.map (·.2))->(Bd vs z u).map (·.1)=(Bd ps z O).map (·.1)/\L2.IsL H ((Bd ps z O).map (·.2)) ((Bd vs z u).map (·.2))
 | [],[],_,_=>[1:1]| [],_::_,e,_=>by simp at e|_::_,[],e,_=>by simp at e|p::ps,v::vs,e,h=>by
  simp![ur,U2] at e;erw[h,u',r,e2,h1,h2];simp![ur,U2] at e2;erw[e2,rfl,rfl];erw[Eu (z:=z) U e.2 h2,i1,i2];rw[show Bd (p::ps) z O=(if p.1=z then(p.1,O) else p)::Bd ps z O from rfl,show Bd (v::vs) z u=(if v.1=z then(v.1,u) else v)::Bd vs z u from rfl]
  by_cases c:p.1=z
  .rw[A6 c,A6 (e.1.trans c)];rw[_,?_,(_,0,U,i2)];rw[ur,ur,i1];exact Aa (·::_) e.1
  .rw[A4 c,A4 (λq=>c (e.1.symm.trans q))];rw[_,?_,(_,0,h1,i2)];rw[ur,ur,i1];exact Aa (·::_) e.1
variable {z:Str}{e:D}
def Bq {u:V}(U:Is H e u){vs:oj (Str×V)}(O:vs.map (·.1)=#[17])(hv:L2.IsL H (ps.map (·.2)) (vs.map (·.2))):(nS vs z u).map (·.1)=(nS ps z e).map (·.1)/\L2.IsL H ((nS ps z e).map (·.2)) ((nS vs z u).map (·.2)):=by
 unfold nS;by_cases c:z>#[17]
 .rw[A6 c,A6 (by rw[O];exact c)]
  exact Eu U O hv
 .rw[A4 c,A4 (by rw[O];exact c)]
  refine⟨by rw[uA,uA,O];rfl,?_⟩
  rw[uA,uA];exact hv.append (L2.IsL.one U)
def j3.up {d:o3}{vs ws:oj (Str×V)}(hd:H d=u_ (.dK (iy vs)))(h1:ws.map (·.1)=#[17])(h2:L2.IsL H (ps.map (·.2)) (ws.map (·.2))):j3 (upd H d (.dK (iy ws))) d ps:=
 (ws,qg,h1,h2.mono (Tk.updD hd))
def qaG {β:Type}(z:Str)(e:β):∀ps:oj (Str×β),(Bd ps z e).map (·.1)=#[17]
 | []=>rfl|p::r=>by
  rw[show Bd (p::r) z e=(if p.1=z then(p.1,e) else p)::Bd r z e from rfl,ur,ur,qaG z e r]
  split<;>rfl
variable {x:Str}
def XJ {β:Type}{ps:oj (Str×β)}{e:β}:x>(nS ps z e).map (·.1)↔x=z\/x>#[17]:=by
 unfold nS;by_cases c:z>#[17]
 .rw[A6 c,qaG];exact⟨.inr,λh=>h.elim (λe=>by rw[e];exact c) id⟩
 .rw[A4 c,uA,UW];exact[λh=>h.elim .inr (λh=> .inl (Ac.mp h)):λh=>h.elim (λe=> .inr (Ac.mpr e)) .inl]
def LN (z y:Str)(e:D):∀ps:#[23],y>#[17]->qH (Bd ps z e) y=if y=z then e else qH ps y
 | [],h=>by rw[h,0]|p::r,h=>by
  show qH ((if p.1=z then(p.1,e) else p)::Bd r z e) y=_
  by_cases c:p.1=y
  .let O:∀q:Str×D,q.1=y->∀l,qH (q::l) y=q.2:=λq U l=>by simp[qH,uS,U]
   rw[O p c];by_cases d:p.1=z
   .rw[A6 d,O (p.1,e) c,A6 (c.symm.trans d)]
   .rw[A4 d,O _ c,A4 (λw=>d (c.trans w))]
  .let O:∀q:Str×D,q.1≠y->∀l,qH (q::l) y=qH l y:=λq U l=>by simp[qH,uS,U]
   let hk:(if p.1=z then(p.1,e) else p).1=p.1:=by split<;>rfl
   rw[O p c,O _ (by rw[hk];exact c)]
   refine LN z y e r ?_;rcases Ab.mp h with h|h
   .exact A9 h.symm c
   .exact h
def KS (ps:#[23])(z y:Str)(e:D)(h:y=z\/y>#[17]):qH (nS ps z e) y=if y=z then e else qH ps y:=by
 unfold nS;by_cases c:z>#[17]
 .rw[A6 c];exact LN z y e ps (h.elim (λw=>by rw[w];exact c) id)
 .rw[A4 c];let O:∀l:#[23],z∉l.map (·.1)->qH (l++ [(z,e)]) y=if y=z then e else qH l y:=by
   intro l
   induction l with
   |nil=>
    intro _;by_cases d:y=z
    .simp[qH,d]
    .simp[qH,d,Uv d]
   |cons p r U=>
    intro hz;let h1:p.1≠z:=λw=>hz (Af.mpr [p:uj:w]);let U:=U λw=>hz (ui _ w);by_cases d:p.1=y
    .let d2:y≠z:=λw=>h1 (d.trans w);rw[A4 d2];simp[qH,d]
    .let e1:∀l,qH (p::l) y=qH l y:=λl=>by simp[qH,uS,d]
     rwa[UA,e1,e1]
  exact O ps c
abbrev mt (qs va:#[23]):Sy.Orc:=λm=>if m>#[15] then(if m>va.map (·.1) then u_ (u_ (qH va m)) else U_) else u_ U_
structure VOk (qs va:#[23]):Prop where
 sub:∀m>va.map (·.1),m>#[15]/\Sy.F (SyP qs) m=u_ (u_ (qH va m))/\isT (qH va m)=v_
abbrev VLf (qs va:#[23])(l:oj Str):Prop:=∀m>l,g0D m (qH qs m)=U_->m>va.map (·.1)
section
variable {qs va:#[23]}
variable {m:Str}
def Sb (h:m∉#[15]):(SyP qs).g0 m=U_/\(SyP qs).once m=none:=by
 rw[_,?_,?_]
 .show g0D m (qH qs m)=U_;rw[Yi h]
  rfl
 .show Ai (qH qs m)=U_;rw[Yi h]
  rfl
def OO (h:VOk qs va):∀m a,mt qs va m=u_ a->Sy.F (SyP qs) m=u_ a:=by
 intro m a e;unfold mt at e;by_cases c:m>#[15]
 .rw[A6 c] at e;by_cases d:m>va.map (·.1)
  .rw[A6 d] at e;rw[<-e];exact(h.sub m d).2.1
  .rw[A4 d,0] at e
 .rw[A4 c] at e;erw[Sb c,h1,h2];rw[Sy.Kf (QK qs) h1,h2];exact e
def Cv (h:VOk qs va):∀m a,mt qs va m=u_ a->Ju (a.getD .non):=by
 intro m a e;unfold mt at e;by_cases c:m>#[15]
 .rw[A6 c] at e;by_cases d:m>va.map (·.1)
  .rw[A6 d,0] at e;exact .inr (h.sub m d).2.2
  .rw[A4 d,0] at e
 .rw[A4 c,0] at e;exact .inl rfl
def Cu (h:VOk qs va)(U:VLf qs va (#[15]))(O:(SyP qs).g0 m=U_):mt qs va m=u_ ((SyP qs).once m):=by
 unfold mt;by_cases c:m>#[15]
 .let d:=U m c O;let e:=(h.sub m d).2.1;rw[Sy.Kf (QK qs) O] at e;rw[A6 c,A6 d];exact e.symm
 .rw[A4 c,(Sb c).2]
def EV (h:VOk qs va)(U:VLf qs va (#[15]))(hc:∀m>#[15],m∉va.map (·.1)->∀g,g0D m (qH qs m)=u_ g->j7 (Sy.it (SyP qs) (mt qs va) 302 g)=U_):∀(k:Nat) (m:Str) (a:om D),Sy.Fh (SyP qs) k m=u_ a->mt qs va m=u_ a
 |0,m,a,e=>by
  cases O:(SyP qs).g0 m with
  |none=>rw[Sy.XH O] at e;rw[Cu h U O];exact e|some g=>rw[Sy.Wz O,0] at e
 |k+1,m,a,e=>by
  cases O:(SyP qs).g0 m with
  |none=>rw[Sy.XH O] at e;rw[Cu h U O];exact e|some g=>
   let hF:=Sy.F_of (QK qs) e;rw[Sy.KJ O] at e;cases hs:(SyP qs).said (Sy.it (SyP qs) (Sy.Fh (SyP qs) k) (SyP qs).M g) with
   |none=>rw[hs,0] at e|some v=>
    let e2:=Sy.W7 (QK qs) (EV h U hc k) hs;let hm:m>#[15]:=(QK qs).gn m g O;let d:m>va.map (·.1):=Va λd=>by
     let e3:(SyP qs).said (Sy.it (SyP qs) (mt qs va) (SyP qs).M g)=none:=hc m hm d g O;rw[e2,hs,0] at e3
    let e4:=(h.sub m d).2.1;unfold mt;rw[A6 hm,A6 d,<-e4];exact hF
def Adn (h:VOk qs va)(U:VLf qs va (#[15]))(hc:∀m>#[15],m∉va.map (·.1)->∀g,g0D m (qH qs m)=u_ g->j7 (Sy.it (SyP qs) (mt qs va) 302 g)=U_):mt qs va=Sy.F (SyP qs):=by
 funext m
 cases O:Sy.F (SyP qs) m with
 |some a=>
  erw[(Sy.F_iff (QK qs)).mp O,k,e,<-EV h U hc k m a e]
 |none=>
  cases ho:mt qs va m with
  |none=>rfl|some a=>rw[OO h m a ho,0] at O
def VOk.put (h:VOk qs va){v:D}(hm:m>#[15])(U:Sy.F (SyP qs) m=u_ (u_ v))(hv:isT v=v_):VOk qs (nS va m v):=⟨λx O=>by
 rw[KS va m x v (XJ.mp O)];by_cases c:x=m
 .rw[A6 c,c];exact[hm:U:hv]
 .rw[A4 c];exact h.sub x ((XJ.mp O).resolve_left c)⟩
variable {l:oj Str}
def VLf.put (h:VLf qs va l)(m:Str)(v:D):VLf qs (nS va m v) l:=λx O U=>XJ.mpr (.inr (h x O U))
variable {f:Sy.Orc}{g:Gp}
def Ms (U:yb qs)(hf:∀m a,f m=u_ a->Ju (a.getD .non))(h:GI g):GI (Sy.step (SyP qs) f g):=by
 let e:Sy.step (SyP qs) f g=if g.en.isSome=v_ then g else match yV g with
  |none=>nZ qs g|some m=>match f m with
   |some a=>yS g (a.getD .non)|none=>D9 g m:=rfl
 rw[e];cases O:g.en with
 |some d=>exact h|none=>
  rw[A4 (by intro z;rw[z,0])]
  cases hw:yV g with
  |none=>exact Ll U h O hw|some m=>
   show GI (match f m with|some a=>yS g (a.getD .non)|none=>D9 g m)
   cases hm:f m with
   |some a=>exact qaD h O (hf m a hm)|none=>exact Lk h m
def At (O:yb qs){f:Sy.Orc}(U:∀m a,f m=u_ a->Ju (a.getD .non)):∀(k:Nat) {g:Gp},GI g->GI (Sy.it (SyP qs) f k g)
 |0,_,h=>h|k+1,_,h=>At O U k (Ms O U h)
def AcW (U:yb qs)(h:VOk qs va){v:D}(hg:g0D m (qH qs m)=u_ g)(hs:j7 (Sy.it (SyP qs) (mt qs va) 302 g)=u_ v):Sy.F (SyP qs) m=u_ (u_ v)/\isT v=true:=by
 let O:(SyP qs).said (Sy.it (SyP qs) (mt qs va) 302 g)=u_ v:=hs;let e:=Sy.W7 (QK qs) (OO h) O;rw[_,?_,Bk (At U (Cv h) 302 (AC U hg).1) hs];rw[Sy.F_run (QK qs) hg];show((SyP qs).said (Sy.it (SyP qs) (Sy.F (SyP qs)) 302 g)).map u_=_;rw[e,O]
 rfl
end
variable {l:oj Str}
def AcZ (h:∀z>l,nm z=v_/\↑z<=4):isT (Be l)=decide (↑l<=40):=by
 let O:∀l:oj Str,(∀z>l,nm z=v_/\↑z<=4)->goodL (l.map D.str)=v_/\szL (l.map D.str)<=5*↑l/\dpL (l.map D.str)<=1:=by
  intro l
  induction l with
  |nil=>exact λ_=>⟨1,Vv _,by simp[dpL]⟩|cons z r U=>
   intro h;obtain⟨i1,i2,i3⟩:=U λy hy=>h y (ui _ hy);erw[h z uj,h1,h2];let g1:Qt z=true:=by unfold Qt;rw[ua (show ↑z<=300 by omega)];exact CC h1
   refine⟨by simp![ur,goodL,iW,g1,i1,V1],by simp![ur,szL,sz,uw];omega,by simp![ur,dpL,dp];omega⟩
 erw[O l h,h1,h2,h3];unfold isT Be;by_cases c:↑l<=40
 .rw[ua c,ua (show sz (.tup (l.map D.str))<=600 by simp![sz];omega),ua (show dp (.tup (l.map D.str))<=12 by simp![dp];omega)]
  simp[iW,h1,c]
 .rw[ub c];simp[iW,h1,c]
def sR:∀(zs O:oj Str),(∀z>zs,nm z=v_/\↑z<=4)->(∀z>O,nm z=v_/\↑z<=4)->↑O<=40->Bf O zs=O++zs.take (40-↑O)
 | [],O,_,_,_=>by rw[TL,vg];rfl|z::r,O,h1,h2,h3=>by
  let h4:∀y>O++ [z],nm y=v_/\↑y<=4:=λy U=>by
   rcases Ae.mp U with U|U
   .exact h2 y U
   .rw[Ac.mp U,0];exact h1 z uj
  unfold Bf;rw[AcZ h4,uE];by_cases c:↑O+1<=40
  .rw[A6 (ua (by exact c)),sR r _ (λy U=>h1 y (ui _ U)) h4 (by rw[uE];exact c),uE,show 40-↑O=(40-(↑O+ [z].length))+1 by show 40-↑O=(40-(↑O+1))+1;omega,Vd,Ut]
   rfl
  .rw[A4 (by rw[ub (by exact c)];exact uh),show 40-↑O=0 by omega,rB,vg]
section
open PySem.Builtin PySem.Builtin.Str
set_option tactic.hygienic true in
def Et (z:Str)(l u:om Int):↑(GB z l u)<=↑(strSliceIndices l u 1 ↑z):=by
 unfold GB;split
 .rename_i h
  rw[uB,Vr,Vr] at h;omega
 .show(List.filterMap _ (strSliceIndices l u 1 ↑z)).toArray.size<=_;rw[uz];exact List.length_filterMap_le _ _
def sTo (z:Str){m:Nat}(h:m<=↑z):(GB z U_ (u_ (m:Int))).cps.toList=z.cps.toList.take m:=by
 let e:GB z U_ (u_ (m:Int))=⟨((z.cps.toList.drop 0).take ((m:Int)-0).toNat).toArray⟩:=StrLaws.sliceText_to ⟨(),by rw[<-qaK];omega⟩
 rw[e];simp
def Aat (z:Str)(m:Nat):↑(GB z U_ (u_ (m:Int)))<=↑z:=by
 refine uP (Et z U_ (u_ (m:Int))) ?_;unfold strSliceIndices sliceRange;simp![show GT.gt (1:Int) 0 by decide,V5,uc,rg]
 (split<;>(try split)<;>(try split)<;>(try simp![R9])<;>omega)
def sw (z y:Str):VS z y=decide (V.str (GB z U_ (u_ (↑y:Int)))=V.str y):=by
 unfold VS;rw[pS,Ts];rcases Ua ↑z ↑y with h|h
 .rw[ub (),FH,ub]
  intro q;have:=Aat z ↑y;rw[V.str.inj q] at this;omega
 .rw[ua (),Tu]
  let e:=sTo z h;rw[vF,Vr,uT];constructor
  .intro q;rw[Bh (e.trans q)]
  .intro q;rw[V.str.inj q] at e;exact e.symm
end
abbrev Ba (H:Hp)(d:o3)(o:Obj)(ps:#[23]):Prop:=∃vs:oj (Str×V),H d=u_ (.frz o (.dK (iy vs)))/\vs.map (·.1)=#[17]/\L2.IsL H (ps.map (·.2)) (vs.map (·.2))
variable {o:Obj}
def Ba.same {d:o3}(h:Ba H d o ps)(s:ie H H'):Ba H' d o ps:=by
 erw[h,vs,h1,h2,h3,<-(vs,s _ _ h1,h2,h3.mono s.tk)]
structure PQ (ps qs:#[23]):Prop where
 pm:qs.Perm ps
 tab:yb qs
 nd:(#[17]).Nodup
 sh:∀p>ps,↑p.1<=4
def PQ.keys (h:PQ ps qs):z>#[15]↔z>#[17]:=(h.pm.map _).mem_iff
def PQ.dat (h:PQ ps qs)(hz:z>#[17]):qH qs z=qH ps z:=Oa h.nd h.pm hz
def PQ.ok (h:PQ ps qs):∀z>#[15],nm z=v_/\↑z<=4:=λz hz=>by
 erw[Af.mp hz,p,O,rfl,<-[h.tab.1.1.1 _ hz:h.sh p (h.pm.mem_iff.mp O)]]
inductive Mz:Sp
 |mk (d:Addr)(o:Obj)(kind text:Str)(ps qs:List (Str×D))(_:vs= [-d,!kind,!text])(_:Ba H d o ps)(_:PQ ps qs)(_:CS kind=v_)(_:↑text<=1000)(_:∀v H',ie H H'->Is H' (Xi qs kind text) v->Q v H')
abbrev rwT (text:Str)(l:oj Str):oj Str:=(l.filter λz=>VS z text).take 40
def Ch {text:Str}:rwT text (l++ [z])=if(VS z text=v_/\↑(rwT text l)<40) then rwT text l++ [z] else rwT text l:=by
 unfold rwT;rw[UL,List.take_append,U6];by_cases c:VS z text=v_
 .rw[List.filter_cons_of_pos (p:=λz=>VS z text) c,R7];by_cases d:↑(l.filter λz=>VS z text)<40
  .rw[A6 [c:()],vj (l:= [z]) (by show 1<=_;omega)]
  .rw[A4 (λh=>d (by have:=h.2;omega)),show 40-↑(l.filter λz=>VS z text)=0 by omega,rB,vg]
 .rw[List.filter_cons_of_neg (p:=λz=>VS z text) c,R7,TL,vg,A4 (λh=>c h.1)]
def IsL.strs4 {H:Hp}:∀{l:oj Str},(∀z>l,↑z<=4)->L2.IsL H (l.map D.str) (l.map V.str)
 | [],_=>rfl|z::r,h=>(_,0,QJ (by have:=h z uj;omega),IsL.strs4 λy O=>h y (ui _ O))
section
variable {P:o9}{w:og}{K:o0}{mg:Str->om o6}{base:o8}{a:Ad}{g:Ga}
def Ng:#[T,1,a.JH,a.Js,["sources","kind","text"],Mz]:=by
 refine T.mj.F.ok yl () (λ_ _ _ s H vs Q E hr h=>?_)
 erw[h,d,o,kind,text,ps,qs,rfl,hS,U,hk,ao,k];let hs:=uF;erw[hS,vs,hd,ae,af];let am:↑ps<=60:=by rw[<-U.pm.length_eq];exact U.tab.2.2
 rw[3,%[#[qK,#[qo,Qn,pv 1,qh],%[|#[qp,#[qL,yu,#[QN,#v[qh,qh]],#[qX,L3,T.z_int,boot_int,#v[#[Adl,6,#[kU,pv 2,pv 0],_]]]]]],qu],#[qy,(3),yl.nd,#[qE,qd]],#[YH,#[Zy,#[qw,#[zh,1,rfl],T.qaz,rf,#v[pv 0]]],#[qW,(4),yl.nd],%[|@qK _ _ _ _ _ _ _ _ #[zq,#[qo,Qn,#[Y7,OB,pv 4,J2,#[jZ,#[qw,JR,T.yt,uK,#v[pv 2]]]],pv 2],#[J0,#[qo,Dy,#[qw,qN,T.yt,uK,#v[pv 3]],qj]]].pt %[|#[qy,(3),yl.nd,#[qV,XI,pv 3,#[qE,#v[pv 4]]]]] qu]]|#[qp,pv 3]]]
 rw[8,N1,q1]
 rw[0,1,0];by_cases c:kind="has"
 .refine lD (ua (by rw[c])) [sml rfl:λl hl=>?_]
  let s1:=qf hl (.lst [V.str "no",V.str "yes"])
  rw[0,0,d,0,.inl (_,Vx text,.inr [o:s1 _ _ hd],1,1),.inr [0:?_]];rw[qal ae af];let hL:Xi qs kind text= .str (if text>#[17] then "yes" else "no"):=by
   unfold Xi;rw[A6 c];by_cases e:text>#[17]
   .rw[A6 e,A6 (U.keys.mpr e)]
   .rw[A4 e,A4 (λz=>e (U.keys.mp z))]
  by_cases e:text>#[17]
  .rw[_,l,_,_,V.str "yes",1,1,SqL.of qg,(by rw[ua e];rfl),k _ _ s1 ?_]
   rw[hL,A6 e];exact QJ ()
  .rw[_,l,_,_,V.str "no",1,1,SqL.of qg,(by rw[ub e];rfl),k _ _ s1 ?_]
   rw[hL,A4 e];exact QJ ()
 refine iU (ub (λz=>c (V.str.inj z))) (q1 _ _ ?_);rw[8,N2,q2]
 rw[_,uN _,λt ht=>q2 _ _ ?_];rw[8,N3,q3];let s1:=qf ht (.tup ([]:oj V));let e1:upd H t (-[]) t=u_ (.tup ((rwT text []).map V.str)):=qg;generalize upd H t (-[])=H1 at s1 e1⊢;let ag:(iy vs).map (·.1)=(#[17]).map Sum.inr:=by
  rw[<-ae];unfold iy;rw[uR,uR]
  rfl
 rw[5]
 refine⟨0,d,iy vs,#[17],1,.inr [o:s1 _ _ hd],ag,by rw[uc];omega,λms q ah aa ak=>?_⟩
 let al:ms=#[15]:=Dm aa U.tab.2.1 (ah.trans (U.pm.map _).symm);subst al;let s2:=qf ak (.lst ((#[15]).map V.str));let e2:=s2 _ _ e1;let ac:upd H1 q (.lst ((#[15]).map V.str)) q=u_ (.lst ((#[15]).map V.str)):=qg;generalize upd H1 q (.lst ((#[15]).map V.str))=H2 at s2 e2 ac⊢
 rw[_,q,1,[_:SqL.of ac]];let hok:=U.ok
 refine_lift let J_:Nat->L2.St->Hp->Prop:=λi σ H'=>∃(t:o3) (v4:om V),σ= [u_ (-d),u_ (!kind),u_ (!text),u_ (-t),v4]/\ie H2 H'/\H' t=u_ (.tup ((rwT text ((#[15]).take i)).map V.str));?_
 refine zy (xs:=(#[15]).map V.str) J_ (t,U_,1,ie.refl _,e2) (λi σ H' _ h=>by erw[h,_,_,_,s,_,<-SqL.of (s _ _ ac)]) ?_ ?_
 .rintro i y σ H' hy ⟨t',v4,rfl,s3,e3⟩;rw[uG] at hy;cases hz:(#[15])[i]? with
  |none=>rw[hz,0] at hy|some z=>
   rw[hz,0] at hy;let ap:=hok z (uL hz);let et:(#[15]).take (i+1)=(#[15]).take i++ [z]:=by rw[vk,hz];rfl
   rw[0,0,text,1,(),0,0,(),0,1,0]
   let no:¬(VS z text=v_/\(rwT text ((#[15]).take i)).length<40)->J_ (i+1) [u_ (-d),u_ (!kind),u_ (!text),u_ (-t'),u_ (!z)] H':=λhn=>(t',0,s3,by rwa[et,Ch,A4 hn])
   cases O:VS z text with
   |false=>
    refine iU (by rwa[<-sw]) ?_
    exact iU rfl (no (λh=>by rw[O] at h;exact uh h.1))
   |true=>
    refine lD (by rwa[<-sw]) ?_
    rw[0,t',0,.inr (SqT.of e3),_,0,1,0];let ad:((rwT text ((#[15]).take i)).map V.str).length=(rwT text ((#[15]).take i)).length:=uc ..;by_cases cl:(rwT text ((#[15]).take i)).length<40
    .refine lD (ua (by rw[ad];omega)) ?_
     rw[0,0,AfH e3 (by rw[ad];omega) λp2 H3 s4 h4=>?_]
     rw[_,p2,0,s3.trans s4];rw[h4,et,Ch,A6 [O:cl],uA]
     rfl
    .refine iU (ub (by rw[ad];omega)) ?_
     exact no (λh=>cl h.2)
 .rintro σ H' ⟨t',v4,rfl,s3,e3⟩;refine q3 _ _ [0:k _ H' ((s1.trans s2).trans s3) ?_];rw[uc,vN] at e3;let hL:Xi qs kind text=Be (rwT text (#[15])):=by
   unfold Xi;rw[A4 c,sR _ [] (λz hz=>hok z (Ag.mp hz).1) (λz hz=>by rw[hz,0]) (uN _)]
   rfl
  rw[hL];exact(t',0,e3,IsL.strs4 λz hz=>(hok z (Ag.mp (V7 hz)).1).2)
inductive Mx:Sp
 |mk (d vd:Addr)(o:Obj)(n:Str)(ps qs va:List (Str×D))(g:Gp)(_:vs= [-d,!n,-vd])(_:Ba H d o ps)(_:PQ ps qs)(_:j3 H vd va)(_:VOk qs va)(_:n>#[15])(_:g0D n (qH qs n)=u_ g)(_:∀v H',ie H H'->Is H' (xz (Sy.it (SyP qs) (mt qs va) 302 g)) v->Q v H')
variable {f:Sy.Orc}
def IZ {n:Str}{g p:Gp}{k:Nat}(O:g0D n (qH qs n)=u_ g)(h:Sy.it (SyP qs) f k g=p)(U:p.en.isSome=v_):Sy.it (SyP qs) f 302 g=p:=by
 let h1:(SyP qs).fin (Sy.it (SyP qs) f k g)=true:=by rwa[h]
 rw[<-h];exact Sy.it_one (Sy.it_end (QK qs) 302 g ((QK qs).l0 n g O)) h1
def IX {g p:Gp}{k:Nat}(h:Sy.it (SyP qs) f k g=p):Sy.it (SyP qs) f (k+1) g=Sy.step (SyP qs) f p:=(Sy.it_snoc (Y:=SyP qs) (f:=f) k g).trans (Aa (Sy.step (SyP qs) f) h)
variable {m:Str}
def wT {p:Gp}(O:p.en=U_)(U:yV p=u_ m):Sy.step (SyP qs) f p=match f m with
  |some a=>yS p (a.getD .non)|none=>D9 p m:=by
 let e:Sy.step (SyP qs) f p=if p.en.isSome=v_ then p else match yV p with
  |none=>nZ qs p|some m=>match f m with
   |some a=>yS p (a.getD .non)|none=>D9 p m:=rfl
 rw[e,O,U]
 rfl
def SR {p:Gp}(O:p.en=U_)(U:yV p=U_):Sy.step (SyP qs) f p=nZ qs p:=by
 let e:Sy.step (SyP qs) f p=if p.en.isSome=v_ then p else match yV p with
  |none=>nZ qs p|some m=>match f m with
   |some a=>yS p (a.getD .non)|none=>D9 p m:=rfl
 rw[e,O,U]
 rfl
variable {va:#[23]}
def OP (h1:m>#[15])(h2:m∉va.map (·.1)):mt qs va m=none:=by
 unfold mt;rw[A6 h1,A4 h2]
def EU (h:VOk qs va)(h1:¬(m>#[15]/\m∉va.map (·.1))):∃a,mt qs va m=u_ a/\(m>va.map (·.1)->a.getD .non=qH va m)/\(m∉va.map (·.1)->a.getD .non= .non)/\Ju (a.getD .non):=by
 unfold mt;by_cases c:m>#[15]
 .let d:m>va.map (·.1):=Va λd=>h1 [c:d];rw[A6 c,A6 d];exact(0,λ_=>rfl,λz=>A9 d z,.inr (h.sub m d).2.2)
 .rw[A4 c];exact(0,λz=>A9 (h.sub m z).1 c,λ_=>rfl,.inl rfl)
def CT {vd:o3}{ws:oj (Str×V)}(hd:H vd=u_ (.dK (iy ws)))(O:ws.map (·.1)=va.map (·.1))(U:L2.IsL H (va.map (·.2)) (ws.map (·.2)))(m:Str):∃ov:om V,mW H vd (!m) ov/\ov.isSome=decide (m>va.map (·.1))/\(m>va.map (·.1)->Is H (qH va m) (ov.getD .non))/\(m∉va.map (·.1)->ov.getD .non= .non):=by
 by_cases c:m>va.map (·.1)
 .erw[kg O U c,l1,l2,<-(u_ (XZ ws m),by rw[<-l1];exact mW.k (k:=Vx m) hd,by rw[ua c];rfl,λ_=>l2,λz=>A9 c z)]
 .let l0:=DG (z:=m) (vs:=ws) (by rw[O];exact c)
  exact(U_,by rw[<-l0];exact mW.k (k:=Vx m) hd,by rw[ub c];rfl,λz=>A9 z c,λ_=>rfl)
def Ln {d:o3}{vs:oj (Str×V)}(hd:H d=u_ (.frz o (.dK (iy vs))))(O:vs.map (·.1)=#[17])(U:L2.IsL H (ps.map (·.2)) (vs.map (·.2)))(m:Str):∃ov:om V,mW H d (!m) ov/\ov.isSome=decide (m>#[17]):=[_:.inl (_,Vx m,.inr [o:hd],1,1):qal O U m]
def Na:#[C,8,a.wP,a.Ww,["sources","name","values"],Mx]:=by
 let WO:=#[Aj,T,C];let jl:=#[Cy,T,C];let QY:=#[Ie,T];let yG:=#[Io,T];let yk:=#[OU,T,C];let wQ:=#[Ng,T];rw[9,T.mw,QE]
 erw[h,d,vd,o,n,ps,qs,va,gp,rfl,hS,hq,hV,hO,a9,hg,k];let hs:=uF;erw[JK hq.tab a9,ba,kk,ee,aJ,g1,g2];let b7:=Am ba;let bb:=hq.keys.mp a9;erw[id hS,bD,hd,aB,aC];erw[kg aB aC bb,l1,l2];rw[<-hq.dat bb,aJ] at l2;erw[l2,ts,ws,bE,aK,w1,r1,rfl,[rfl,b8],w2,r2,rfl,bc,h3];rw[show r2= [] from h3,0]
 rw[bE] at l1;rw[3,%[#[qy,(3),QE.nd,#[Qq,pv 0,pv 1]],#[qy,(4),QE.nd,#[qL,qJ,pv 3,qj]],#[qy,(5),QE.nd,#[qE,qd]],#[qK,#[qo,Qn,#[qL,qJ,pv 3,qj],qh],%[@qK _ _ _ _ _ _ _ _ #[zq,#[xQ,#[kU,#[qL,qJ,pv 3,qj],pv 0]],#[J0,#[xQ,#[JU,#[qL,qJ,pv 3,qj],pv 2]]]].pt %[|#[qp,#[qE,#v[#[qE,qd],#[qE,#v[qh,#[qL,qJ,pv 3,qj]]]]]]] qu,#[qy,(4),QE.nd,#[Cr,9,Qs hr,pv 2,#[qL,qJ,pv 3,qj],qY,(1,1,1,1)]],#[qy,(5),QE.nd,#[qE,#v[#[qE,#v[#[qE,#v[qh,#[qL,qJ,pv 3,qj]]],pv 4]]]]]|#[qK,#[qo,Yz,pv 4,qY],%[|#[qp,#[qE,#v[pv 5,#[qE,#v[qh,qh]]]]]],qu]],qu],#[qK,#[Qv,#[Qh,#[qr,WO,#[20],T.m6,qG,#v[pv 4]]]],%[|#[qp,#[qE,#v[pv 5,#[qE,#v[qh,qh]]]]]],qu],#[qy,(6),QE.nd,#[Jq,T.M_Machine,jl,#[20],T.m_Machine,T.lr,Dw,#v[pv 4,pv 1]]],#[xg,#[qo,Qn,#[qL,Jz,#[QC,pv 6,T.qt,T.iw,QY],qj],qh],%[#[EJ,6,#[qL,Jz,#[QC,pv 6,T.qt,T.iw,QY],qj],#[EL,6,rfl,YE #[qW,(7),QE.nd] (YE #[qW,(8),QE.nd] qak),_,_],_,_,_],@qK _ _ _ _ _ _ _ _ #[zq,#[qo,Qn,pv 7,qh],#[zq,#[xQ,#[kU,pv 8,pv 0]],#[J0,#[xQ,#[JU,pv 8,pv 2]]]]].pt %[|#[qp,#[qE,#v[#[qV,XI,pv 5,#[QC,pv 6,T.qt,T.iM,yG]],#[qE,#v[qh,pv 8]]]]]] qu|#[qK,#[qo,Qn,pv 7,qh],%[|#[Qe,#[Qw,pv 6,T.qt,T.iE,yk,#v[#[Cr,9,Qs hr,pv 2,pv 8,qY,(1,1,1,1)]]]]],%[|#[Qe,#[Qw,pv 6,T.qt,T.iE,yk,#v[#[qr,wQ,#[20],T.mj,qG,#v[pv 0,pv 7,pv 8]]]]]]]]]|#[qp,#[qE,#v[#[qV,XI,pv 5,#[QC,pv 6,T.qt,T.iM,yG]],#[QC,pv 6,T.qt,T.iw,QY]]]]]]
 rw[8,N1,q1]
 rw[0,0,d,0,.inl (_,Vx n,.inr [o:hd],1,l1.symm),q1 _ _ ?_];rw[8,N2,q2]
 rw[0,ts,_,_,0,1,SqT.of aK,1,q2 _ _ ?_];rw[8,N3,q3]
 rw[_,uN _,λt0 bd=>q3 _ _ ?_];let s0:=qf bd (.tup ([]:oj V));let i0:Is (upd H t0 (-[])) (-[]) (-t0):=Is.new (ds:= []) rfl bd;generalize upd H t0 (-[])=H0 at s0 i0⊢;rw[8,N4,q4];let out:∀(p:Gp) (j:Nat) (v1 v2:V) (H':Hp),Sy.it (SyP qs) (mt qs va) j gp=p->p.en.isSome=v_->ie H H'->Is H' (.tup (p.ra++Bo p.run)) v1->Is H' (p.en.getD .non) v2->∀t,H' t=U_->Q (-t) (upd H' t (-[v1,v2])):=λp j v1 v2 H' h1 h2 s' i1 i2 t ht=>by
  refine k _ _ (s'.trans (qf ht _)) ?_;rw[IZ hg h1 h2];exact Is.new (ds:= [.tup (p.ra++Bo p.run),p.en.getD .non]) (_,0,i1,_,0,i2,1) ht
 let bf:∀(rv av:V) (rd mb:D) (ra:oj D) (H1:Hp) (j:Nat),ie H H1->Is H1 rd rv->xw rd=Vt->Is H1 (¬ra) av->↑ra<=1->Sy.it (SyP qs) (mt qs va) j gp=nw (n,mb,ra,U_,U_) rd->N4 [u_ (-d),u_ (!n),u_ (-vd),u_ (-ts),u_ rv,u_ av,U_,U_,U_] H1:=by
  intro rv av rd mb ra H1 j s1 ir aF ia b3 au;refine q4 _ _ ?_;rw[8,N5,q5]
  rw[0,rv,rd,1,ir,λH2 s2=>[0:?_]];let af:=s1.trans s2;let bg:=At hq.tab (Cv hO) j (AC hq.tab hg).1;rw[au] at bg;cases hr:yf rd with
  |none=>
   refine lG ?_;let hp:nw (n,mb,ra,U_,U_) rd=(n,mb,ra,U_,u_ (flt "rule")):=by
    unfold nw;rw[aF,A4 uh,hr]
   rw[hp] at au
   rw[0,sml rfl,λt1 h1=>[sml rfl:?_]];let m1:=qf h1 (-[V.str "fault",V.str "rule"]);refine out _ j av (-t1) _ au rfl (af.trans m1) ?_ (Is.new (ds:= [-"fault",-"rule"]) (_,0,QJ (),_,0,QJ (),1) h1)
   show Is _ (.tup (ra++ [])) av;rw[vg];exact(ia.mono s2.tk).mono m1.tk
  |some rs=>
   refine iX (q5 _ _ ?_);erw[Cm hr,hR,bF];subst bF;let hp:nw (n,mb,ra,U_,U_) (y9 rs)=(n,mb,ra,u_ (rs,R0 rs n),mC (R0 rs n)):=by
    unfold nw;rw[aF,A4 uh,hr]
   rw[hp] at au bg;rw[8,N6,q6]
   rw[0,0,λx dx hx bG nx=>?_];let m0:ie H2 (upd (upd H2 dx (.own x)) x (.ins a.qm dx [])):=λb ob h=>by rwa[qk (qi h hx),qk (qi h bG)]
   rw[_,x,dx,rv,!n,y9 rs,!n,1,qg,(ir.mono s2.tk).mono m0.tk,QJ (),λz=>?_,λ_ z=>?_,λO b4 e1 bH e2 b9 ca H3 db dg kept bh bo hM=>[1:q6 _ _ ?_]]
   .rw[hr,0] at z
   .rw[show mO (!n)=v_ from ba] at z
    rw[z,0]
   let e3:O=rs:=by
    let h1:=hR.read;rw[e1,bH.read] at h1;exact uJ h1
   rw[e2,0];subst e3;let s3:ie H2 H3:=λb ob h=>kept b ob (m0 b ob h) (qi h hx);let cb:=af.trans s3;let fx:H x=none:=af.free hx;let fb:H db=none:=af.free (m0.free bh);let fg:H dg=none:=af.free (m0.free bo);let cc:=(ia.mono s2.tk).mono s3.tk;let x2:H2 x=none:=hx;let b2:H2 db=none:=m0.free bh;let bI:H2 dg=none:=m0.free bo;rw[8,N7,q7]
   refine_lift let J_:Nat->L2.St->Hp->Prop:=λmm σ H'=>∃(i:Nat) (r:Rn) (u7 u8:om V),mm=se (n,mb,ra,u_ (O,r),mC r)/\σ= [u_ (-d),u_ (!n),u_ (-vd),u_ (-ts),u_ rv,u_ av,u_ (-x),u7,u8]/\ie H2 H'/\yU a.qm H' (x,db,dg,O,n) r/\Sy.it (SyP qs) (mt qs va) i gp=(n,mb,ra,u_ (O,r),mC r);?_
   rw[_,J_,(_,j,R0 O n,U_,U_,1,1,s3,hM,au)];rintro mm σ H4 ⟨i,r,u7,u8,rfl,rfl,s4,aa,aw⟩;let aG:=At hq.tab (Cv hO) i (AC hq.tab hg).1;rw[aw] at aG;erw[aG.run O r rfl,bp,aD,bq,hW];let ce:=af.trans s4;let bu:=(ia.mono s2.tk).mono s4.tk;let bv:=aa;erw[bv,ag,ac,_,_,_,_,ah,bJ,_];let bK:∃w0 e0,r.th=-[!w0,e0]:=by
    rcases bq with⟨z,h⟩|⟨e,h,_⟩|⟨u,z,h,_⟩
    .exact[_:_:h]
    .exact[_:_:h]
    .exact[_:_:h]
   erw[bK,w0,e0,aL];let fin:∀(H':Hp),ie H2 H'->ie H H':=λH' s'=>af.trans s';let bL:∀{H5 H6:Hp},ie H2 H5->Mv (x,db,dg,O,n) H5 H6->ie H2 H6:=λs' mv b ob e=>mv.kept b ob (s' b ob e) (qi e x2) (qi e b2) (qi e bI);let ak:∀m>MTH,ac.lookup m=none:=bJ.meth;let bw:↑ra+↑r.gs<=1000:=by have:=aD.gs.2.2;have:=aD.n;omega
   rw[0,x,ag,ac,1,ah,ak _ (),(x,db,dg,O,n),r,1,aa,λv4 i4=>?_]
   rw[aL] at i4;erw[i4,p4,cf,rfl,bM,y1,cg,rfl,[rfl,ch],y2,bN,rfl,ci,h5];rw[show bN= [] from h5,0]
   refine .inr (.inl (p4,_,_,0,1,SqT.of bM,1,1,0,?_));by_cases cw:w0="asks"
   .refine lD (ua (by rw[cw])) ?_
    let al:QH r.th=true:=by rw[aL,cw];rfl
    let am:mC r=none:=by unfold mC;rw[A6 al]
    obtain⟨u,z,ap,bO,bP⟩:∃(u z:Str),r.th= .tup [-"asks",-[!u,!z]]/\isT (!z)=v_/\(u="names"\/(u="thing"\/u="has")/\nm z=v_):=by
     rcases bq with⟨y,h⟩|⟨e,h,_⟩|h
     .rw[h] at al;exact A9 al (show¬decide (("fault":Str)="asks")=v_ by rw[12])
     .rw[h] at al;exact A9 al (show¬decide (("said":Str)="asks")=v_ by rw[12])
     .exact h
    let bQ:↑z<=300:=by
     have:=Q3 bO;simp![iW,Qt,uB,uT] at this;exact this.1
    let bx:xy (n,mb,ra,u_ (O,r),mC r)=-[!u,!z]:=by
     show Wn r.th=_;rw[ap]
     rfl
    let ax:yV (n,mb,ra,u_ (O,r),mC r)=if CS u=v_ then U_ else u_ z:=by
     unfold yV;rw[bx]
    let nxt:=IX aw
    rw[_,λσ' H'=>∃m',m'<se (n,mb,ra,u_ (O,r),mC r)/\J_ m' σ' H',λ_ _ h=>h];let more:∀(dv:D) (u7 u8:om V) (H5:Hp),Sy.step (SyP qs) (mt qs va) (n,mb,ra,u_ (O,r),mC r)=yS (n,mb,ra,u_ (O,r),mC r) dv->Mv (x,db,dg,O,n) H4 H5->yU a.qm H5 (x,db,dg,O,n) (mX O n r dv)->∃m',m'<se (n,mb,ra,u_ (O,r),mC r)/\J_ m' [u_ (-d),u_ (!n),u_ (-vd),u_ (-ts),u_ rv,u_ av,u_ (-x),u7,u8] H5:=λdv u7 u8 H5 e1 mv aM=>
     (_,qam (g:=(n,mb,ra,u_ (O,r),mC r)) am dv,i+1,mX O n r dv,_,0,1,bL s4 mv,aM,nxt.trans e1)
    show nP _ _ _ _ H4;rw[8,B1,b1]
    rw[0,x,ag,ac,1,ah,ak _ (),(x,db,dg,O,n),r,1,aa,λv5 i5=>?_]
    rw[ap] at i5;erw[i5,p5,cj,rfl,bR,y3,ck,rfl,_,y4,bS,rfl,[p6,cn,rfl,bT,y5,cp,rfl,[rfl,cq],y6,bU,rfl,[rfl,b5],h6],h7];rw[show bS= [] from h7,0]
    rw[show bU= [] from h6,0]
    refine .inr (.inl (p5,_,_,0,1,SqT.of bR,1,p6,0,SqT.of bT,1,_,0,_,0,1,b1 _ _ ?_));rw[8,B2,b2];erw[hV,bV,aN,aO,aP];let ao:=fin H4 s4;let aH:=ao _ _ aN;let bA:=aP.mono ao.tk;erw[CT aH aO bA z,ov,ay,aA,aQ,aR];erw[Ln (ao _ _ hd) aB (aC.mono ao.tk) z,ow,aS,ad]
    rw[0,1,0];by_cases cu:u="thing"
    .refine lD (ua (by rw[cu])) ?_
     let aq:yV (n,mb,ra,u_ (O,r),mC r)=u_ z:=by rw[ax,cu];rfl
     let go:¬(z>#[15]/\z∉va.map (·.1))->B2 [u_ (-d),u_ (!n),u_ (-vd),u_ (-ts),u_ rv,u_ av,u_ (-x),u_ (!u),u_ (!z)] H4:=by
      intro aU;refine b2 _ _ ?_;erw[EU hO aU,oa,aV,aW,aX,aY]
      rw[0,1,0,lD (ua (by rw[cu])) ?_]
      have aE:Is H4 (oa.getD .non) (ov.getD .non):=by
       by_cases c:z>va.map (·.1)
       .rw[aW c];exact aQ c
       .rw[aX c,aR c];exact rfl
      have bW:DS u (oa.getD .non)=true:=by
       rw[cu];unfold DS;rcases aY with h|h
       .rw[h];rw[12]
       .cases cr:xw (oa.getD .non) with|true=>rw[A6 rfl];rw[12]|false=>rw[A4 uh,A6 h,A4 (show¬("thing":Str)="has" by rw[12]),ua rfl];rfl
      rw[0,x,ag,ac,1,ah,ak _ (),0,vd,1,.inl [_:.inl aH],0,ov,ay,(x,db,dg,O,n),r,_,u,!z,oa.getD .non,1,aa,aD,ap,aE,bp,(),bW,λH5 mv aM=>?_]
      refine more _ _ _ H5 ?_ mv aM;rw[wT am aq,aV]
     rw[0,0,d,ow,1,aS,0];by_cases c1:z>#[17]
     .refine lD (by rw[ad];exact ua c1) ?_
      rw[0,0,vd,ov,1,ay,0];by_cases c2:z>va.map (·.1)
      .refine iU (by rw[aA,ua c2];rfl) ?_
       exact go (λh=>h.2 c2)
      .refine lD (by rw[aA,ub c2];rfl) ?_
       have bX:Sy.it (SyP qs) (mt qs va) (i+1) gp=D9 (n,mb,ra,u_ (O,r),mC r) z:=by rw[nxt,wT am aq,OP (hq.keys.mpr c1) c2]
       rw[0,0,x,ag,ac,1,ah,ak _ (),(x,db,dg,O,n),r,1,aa,λv6 H6 s6 i6=>?_]
       refine BT (bu.mono s6.tk) i6 bw λv7 H7 s7 i7=>?_
       rw[0,sml rfl,λt1 h1=>[sml rfl:?_]];let m1:=qf h1 (-[V.str "stuck",V.str z]);exact out _ (i+1) v7 (-t1) _ bX rfl (((ao.trans s6).trans s7).trans m1) (i7.mono m1.tk) (Is.new (ds:= [-"stuck",!z]) (_,0,QJ (),_,0,QJ (),1) h1)
     .refine iU (by rw[ad];exact ub c1) ?_
      exact iU rfl (go (λh=>c1 (hq.keys.mp h.1)))
    .refine iU (ub (λy=>cu (V.str.inj y))) ?_;refine iU rfl (b2 _ _ ?_)
     rw[0,1,0,iU (ub (λy=>cu (V.str.inj y))) ?_];let aZ:CS u=true:=by
      rcases bP with h|⟨h|h,_⟩
      .rw[h];rw[12]
      .exact A9 h cu
      .rw[h];rw[12]
     let aq:yV (n,mb,ra,u_ (O,r),mC r)=none:=by rw[ax,A6 aZ]
     rw[0,x,ag,ac,1,ah,ak _ (),0,0,0,d,o,u,z,ps,qs,1,(bD,ao _ _ hd,aB,aC.mono ao.tk),hq,aZ,(),λv6 H6 s6 i6=>?_]
     rw[_,(x,db,dg,O,n),r,_,u,!z,Xi qs u z,1,aa.same s6,aD,ap,i6,bp,(),(BG hq.tab z aZ).2,λH7 mv bY=>?_]
     refine more _ _ _ H7 ?_ ((Mv.of s6).trans mv) bY;rw[SR am aq];show nZ qs _=_;unfold nZ;rw[bx]
   .refine iU (ub (λy=>cw (V.str.inj y))) (q7 _ _ ?_);let al:QH r.th=false:=by rw[aL];exact ub cw
    let am:mC r=u_ r.th:=by unfold mC;rw[al,A4 uh]
    rw[0,0,x,ag,ac,1,ah,ak _ (),(x,db,dg,O,n),r,1,aa,λv6 H6 s6 i6=>?_]
    refine BT (bu.mono s6.tk) i6 bw λv7 H7 s7 i7=>?_;let a4:=s6.trans s7
    rw[0,x,ag,ac,1,a4 _ _ ah,ak _ (),(x,db,dg,O,n),r,1,aa.same a4,λv8 i8=>[sml rfl:?_]]
    refine out _ i v7 v8 H7 aw (by show(mC r).isSome=v_;rw[am];rfl) ((fin H4 s4).trans a4) i7 ?_
    show Is H7 ((mC r).getD .non) v8;rwa[am]
 rw[0,ts,_,_,0,1,SqT.of (s0 _ _ aK),1,1,0];by_cases cm:kk="made"
 .refine lD (ua (by rw[cm])) ?_
  erw[g1 cm,z,rfl,bZ];obtain⟨rfl,bQ⟩:=(show w2= .str z/\↑z<=Vw from bc)
  let b6:=Am bZ;let a5:gp=(n,!z,[],U_,U_):=by
   rw[aJ,cm] at hg;exact(uJ hg).symm
  subst a5;let ax:yV (n,!z,[],U_,U_)=u_ z:=rfl;let nxt:Sy.it (SyP qs) (mt qs va) (0+1) (n,!z,[],U_,U_)=Sy.step (SyP qs) (mt qs va) (n,!z,[],U_,U_):=IX rfl;erw[id hV,bV,aN,aO,aP];let aI:=s0 _ _ aN;erw[CT aI aO (aP.mono s0.tk) z,ov,ay,aA,aQ,aR];erw[Ln (s0 _ _ hd) aB (aC.mono s0.tk) z,ow,aS,ad];let ae:=s0 _ _ aK;show nP _ _ _ _ H0;rw[8,A1,a1];let go:¬(z>#[15]/\z∉va.map (·.1))->A1 [u_ (-d),u_ (!n),u_ (-vd),u_ (-ts),u_ (!z),u_ (-t0),U_,U_,U_] H0:=by
   intro aU;refine a1 _ _ ?_;erw[EU hO aU,oa,aV,aW,aX,aY];let aE:Is H0 (oa.getD .non) (ov.getD .non):=by
    by_cases c:z>va.map (·.1)
    .rw[aW c];exact aQ c
    .rw[aX c,aR c];exact rfl
   rw[wT rfl ax,aV] at nxt;rw[8,A2,a2]
   rw[0,vd,1,.inl [_:.inl aI],0,ts,_,_,0,1,SqT.of ae,1,ov,ay,a2 _ _ ?_];rw[8,A3,a3]
   rw[0,ts,_,_,0,1,SqT.of ae,1,sml rfl,λt1 h1=>[0:sml rfl:λt2 h2=>[sml rfl:λt3 h3=>a3 _ _ ?_]]];let m1:=qf h1 (-[V.str "rule",V.str z]);let m2:=qf h2 (-[V.ref t1,ov.getD .non]);let m3:=qf h3 (-[V.ref t2]);let i1:=Is.new (ds:= [-"rule",!z]) (_,0,QJ (),_,0,QJ (),1) h1
   let i2:=Is.new (ds:= [-[-"rule",!z],oa.getD .non]) (_,0,i1,_,0,aE.mono m1.tk,1) h2;let i3:=Is.new (ds:= [-[-[-"rule",!z],oa.getD .non]]) (_,0,i2,1) h3;let a6:=(m1.trans m2).trans m3;let U:=aE.mono a6.tk;let a7:=s0.trans a6;generalize upd (upd (upd H0 t1 (-[V.str "rule",V.str z])) t2 (-[V.ref t1,ov.getD .non])) t3 (-[V.ref t2])=H3 at a6 i3 U a7⊢;let a8:Sy.it (SyP qs) (mt qs va) (0+1) (n,!z,[],U_,U_)=nw (n,!z,[-[-[-"rule",!z],oa.getD .non]],U_,U_) (oa.getD .non):=nxt
   rw[0,1,0];rcases aY with h|h
   .rw[h] at U a8 i3;cases bB:ov.getD .non with
    |non=>
     refine lD (ua rfl) ?_
     rw[0,sml rfl,λt4 h4=>[sml rfl:?_]];let m4:=qf h4 (-[V.str "fault",V.str "lack"]);exact out _ _ (-t3) (-t4) _ a8 rfl (a7.trans m4) (i3.mono m4.tk) (Is.new (ds:= [-"fault",-"lack"]) (_,0,QJ (),_,0,QJ (),1) h4)
    |_=>rw[bB] at U;rw[show _=V.non from U,0]
   .let bC:ov.getD .non≠ .non/\xw (oa.getD .non)=false:=by
     generalize oa.getD .non=dd at h U;cases dd with
     |str y=>exact⟨λe=>(by rw[e] at U;rw[U.1,0]),1⟩|tup ys=>exact⟨λe=>(by rw[e] at U;erw[U,_,_,e2,_];rw[e2,0]),1⟩|non=>exact A9 h ()|bl b=>exact A9 (Q3 h) (show¬Vt=v_ by decide)|int b=>exact A9 (Q3 h) (show¬Vt=v_ by decide)|lst=>exact A9 h ()|dct=>exact A9 h ()
    refine iU (ub bC.1) ?_;exact bf _ (-t3) (oa.getD .non) (!z) _ H3 (0+1) a7 U bC.2 i3 (Vv _) a8
  rw[0,ts,_,_,0,1,SqT.of ae,1,0,d,ow,1,aS,0];by_cases c1:z>#[17]
  .refine lD (by rw[ad];exact ua c1) ?_
   rw[0,ts,_,_,0,1,SqT.of ae,1,0,vd,ov,1,ay,0];by_cases c2:z>va.map (·.1)
   .refine iU (by rw[aA,ua c2];rfl) ?_
    exact go (λh=>h.2 c2)
   .refine lD (by rw[aA,ub c2];rfl) ?_
    rw[wT rfl ax,OP (hq.keys.mpr c1) c2] at nxt
    rw[_,uN _,λt1 h1=>?_];let m1:=qf h1 (.tup ([]:oj V))
    rw[0,ts,_,_,0,1,SqT.of (m1 _ _ ae),1,sml rfl,λt2 h2=>[sml rfl:?_]];let m2:=qf h2 (-[V.str "stuck",V.str z]);exact out _ _ (-t1) (-t2) _ nxt rfl ((s0.trans m1).trans m2) ((Is.new (ds:= []) rfl h1).mono m2.tk) (Is.new (ds:= [-"stuck",!z]) (_,0,QJ (),_,0,QJ (),1) h2)
  .refine iU (by rw[ad];exact ub c1) ?_
   exact iU rfl (go (λh=>c1 (hq.keys.mp h.1)))
 .refine iU (ub (λz=>cm (V.str.inj z))) ?_;let a5:gp=nw (n,.non,[],U_,U_) ee:=by
   rw[aJ] at hg;unfold g0D at hg;simp only at hg;by_cases cl:kk="leaf"
   .rw[A6 cl,0] at hg
   .rw[A4 cl,A4 cm] at hg;exact(uJ hg).symm
  let hT:=(g2 cm).2;refine bf w2 (-t0) ee .non [] H0 0 s0 (bc.mono s0.tk) ?_ i0 (uN _) a5;cases ee with
  |non=>exact A9 hT ()|_=>rfl
def IL:∀{l m:oj Str},l.Nodup->(∀x>l,x>m)->↑l<=↑m
 | [],m,_,_=>uN _|x::r,m,hn,hs=>by
  rw[Ue] at hn;let O:=hs x uj;let h:=IL (l:=r) (m:=m.erase x) hn.2 (λy U=>(List.mem_erase_of_ne (λz=>hn.1 (by rwa[<-z]))).mpr (hs y (ui _ U)))
  rw[List.length_erase_of_mem O] at h;have:0<↑m:=List.length_pos_of_mem O;rw[uw];omega
def C0 {d:o3}{o:Obj}{kvs:oj (Key×V)}{g:TG}{tb:TS}{D:mV}{σ:L2.St}{H:Hp}(U:Nat->L2.St->Hp->Prop)(h0:U 0 σ H)(hl:∀i σ H,i<=↑kvs->U i σ H->H d=u_ (.frz o (.dK kvs)))
  (hs:∀i p σ H,kvs[i]? =u_ p->U i σ H->g (kV p.1) σ H λσ2 H2=>tb {D with nx:=U (i+1),ct:=U (i+1),bk:=D.nx} σ2 H2) (hd:∀σ H,U ↑kvs σ H->D.nx σ H):
  ∃W:Nat->Nat->L2.St->Hp->Prop,(∃m,W 0 m σ H)/\∀i m σ H,W i m σ H->
   ((Itd d o).stop i H/\D.nx σ H)\/((Itd d o).go i H/\∃N:L2.St->Hp->Prop,(∀σ' H',N σ' H'->∃m',m'<m/\W (i+1) m' σ' H')/\∀x H',(Itd d o).yld i H x H'->g x σ H' λσ2 H2=>tb {D with nx:=N,ct:=N,bk:=D.nx} σ2 H2):=by
 rw[_,λi m σ H=>m=↑kvs-i/\i<=↑kvs/\U i σ H,(↑kvs,by simp,uN _,h0)]
 rintro i m σ H ⟨rfl,hi,p⟩;let q:=hl i σ H hi p;by_cases O:i<↑kvs
 .refine .inr ([kvs:q:O],U (i+1),λσ' H' p'=>(↑kvs-(i+1),(),1,O,p'),λx H' y=>?_)
  erw[y,rfl,y];let y:=y kvs q;rw[uG,um O,0] at y;exact hs i _ σ _ (um O) p
 .let e:i=↑kvs:=by omega
  subst e;exact .inl [[kvs:q:Vv _]:hd σ H p]
def Aby {K:o0}{a A:o3}{H1:Hp}{tc:TT}{te:TE}{tl:L2.St}{Q:VK}{ls:oj Str}(p:Str->Bool)(ha:H1 a=u_ (.lst (ls.map V.str)))(hn:↑ls<=Vw)(hA:H1 A=U_)
  (ad:∀z H (R:Bool->Hp->Prop),z>ls->ie H1 H->R (p z) H->tc (u_ (!z)::tl) H R)
  (ae:∀x H (R:VK),R x H->te (u_ x::tl) H R)
  (hQ:∀H',ie H1 H'->H' A=u_ (.lst ((ls.reverse.filter p).map V.str))->Q (-A) H'):Mg A (AeL K a ↑(ls.map V.str)) (jG 0) tc te (U_::tl) H1 Q:=by
 let ac:↑(ls.map V.str)=↑ls:=uc ..;let af:↑ls.reverse=↑ls:=vV;rw[_,↑ls,λi σ ys H=>(∃w,σ=w::tl)/\ys=((ls.reverse.take i).filter p).map V.str/\ie H1 H,hn,[[U_:1]:1:qf hA _],?_,?_]
 .rintro i σ ys H hi ⟨⟨w,rfl⟩,rfl,sm⟩ U ag;let O:i<↑ls.reverse:=by omega
  let e0:(ls.map V.str)[↑(ls.map V.str)-1-i]? =u_ (V.str (ls.reverse[i]'O)):=by
   rw[uG,ac,um (),List.getElem_reverse]
   rfl
  rw[_,((),_,SqL.of (sm _ _ ha),1)]
  rintro x H' ⟨rfl,hx⟩;let e:=hx _ (SqL.of (sm _ _ ha));rw[e0,0] at e;let et:ls.reverse.take (i+1)=ls.reverse.take i++ [ls.reverse[i]'O]:=by rw[vk,um O];rfl
  let aa:ls.reverse[i]'O>ls:=List.mem_reverse.mp (v9 O);generalize ls.reverse[i]'O=z at et aa⊢
  try dsimp![jG,HQ]
  refine ad z H' _ aa sm ?_;cases hp:p z with
  |true=>
   refine lG (ae _ H' _ (U,⟨0⟩,?_,λc o e=>?_))
   .rw[et,UL];have: [z].filter p= [z]:=by simp[hp]
    rw[this,uA]
    rfl
   .rw[qk (qi e hA)];exact sm _ _ e
  |false=>
   refine iX (U,⟨0⟩,?_,sm);rw[et,UL];have: [z].filter p= []:=by simp[hp]
   rw[this,vg]
 .rintro σ ys H ⟨_,rfl,sm⟩ U;rw[<-af,vN] at U;exact[ac.symm:hQ H sm U]
def OJ {β:Type}{ps:oj (Str×β)}{e:β}(h:(#[17]).Nodup):((nS ps z e).map (·.1)).Nodup:=by
 unfold nS;by_cases c:z>#[17]
 .rwa[A6 c,qaG]
 .rw[A4 c,uA,rG];rw[_,h,by simp,λa ha b O e=>?_]
  rw[Ac.mp O,0];rw[e] at ha;exact c ha
structure Ma (qs rr:#[23])(l:oj Str):Prop where
 keys:∀m,m>rr.map (·.1)↔m>l/\g0D m (qH qs m)≠U_
 dat:∀m g,m>l->g0D m (qH qs m)=u_ g->qH rr m=xz (Sy.it (SyP qs) (Sy.F (SyP qs)) 302 g)
inductive Ek:Sp
 |mk (d:Addr)(o:Obj)(ps qs:List (Str×D))(_:vs= [-d])(_:Ba H d o ps)(_:PQ ps qs)(_:∀(t vd rd:Addr)(rr:List (Str×D))(H':Hp),ie H H'->H' t=u_ (-[-vd,-rd])->j3 H' rd rr->Ma qs rr (#[15])->Q (-t) H')
def JF {kk:Str}{ee:D}:g0D m (-[!kk,ee])=U_↔kk="leaf":=by
 unfold g0D;simp only;constructor
 .intro h;by_cases c:kk="leaf"
  .exact c
  .rw[A4 c] at h;split at h<;>cases h
 .intro h;rw[A6 h]
structure Rds (ls:oj Str)(qs va:#[23])(wl:oj Str):Prop where
 ok:VOk qs va
 lf:VLf qs va ls
 nd:(va.map (·.1)).Nodup
 wt:∀m,m>wl↔m>ls/\m∉va.map (·.1)
 len:↑wl<=60
def LA {p:Gp}(h:GI p)(he:p.en.isSome=v_):∃w e,p.en=u_ (-[!w,e])/\(w="said"->j7 p=u_ e)/\(w≠"said"->j7 p=U_):=by
 cases U:p.en with
 |none=>rw[U,0] at he|some d=>
  let O:∀w e,d= .tup [!w,e]->j7 p=if w="said" then u_ e else none:=λw e hd=>by
   unfold j7;rw[U,hd]
   rfl
  rcases h.en d U with⟨z,hd⟩|⟨e,hd,_⟩|⟨z,hd⟩
  .exact(_,_,by rw[hd];rfl,λc=>by rw[O _ _ hd,A6 c],λc=>by rw[O _ _ hd,A4 c])
  .exact(_,_,by rw[hd],λc=>by rw[O _ _ hd,A6 c],λc=>by rw[O _ _ hd,A4 c])
  .exact(_,_,by rw[hd],λc=>by rw[O _ _ hd,A6 c],λc=>by rw[O _ _ hd,A4 c])
def Ia:#[C,9,a.JL,a.JG,["sources"],Ek]:=by
 let W2:=#[Na,T,C];rw[9,T.ml,qS]
 erw[h,d,o,ps,qs,rfl,hS,hq,k];let hs:=uF;erw[id hS,aa,hd,a1,bB];let a2:↑ps<=60:=by rw[<-hq.pm.length_eq];exact hq.tab.2.2
 let aH:(iy aa).map (·.1)=(#[17]).map Sum.inr:=by
  rw[<-a1];unfold iy;rw[uR,uR]
  rfl
 let aP:↑(iy aa)=(#[17]).length:=by
  have:=Aa Gi aH
  simpa using this
 let bW:(#[15]).Nodup:=hq.tab.1.1.2;obtain⟨ls,aI⟩:∃ls,ls=#[17]:=⟨0⟩;let ae:∀m,m>ls↔m>#[15]:=λm=>by rw[aI];exact hq.keys.symm
 let bC:↑ls<=60:=by rwa[aI,uc]
 rw[<-aI] at aH aP;let a3:∀{va:#[23]},VOk qs va->(va.map (·.1)).Nodup->↑va<=60:=λ{va} h1 h2=>by
  have:=IL h2 (λx hx=>(h1.sub x hx).1);rw[uc,uc] at this;exact uP this hq.tab.2.2
 let a4:∀{i:Nat}{p:Key×V},(iy aa)[i]? =u_ p->∃z,p.1=Vx z/\ls[i]? =u_ z:=λ{i p} h=>by
  let h1:((iy aa).map (·.1))[i]? =u_ p.1:=by rw[uG,h];rfl
  rw[aH,uG] at h1;cases hz:ls[i]? with
  |none=>rw[hz,0] at h1|some z=>rw[hz] at h1;exact[z:(uJ h1).symm:1]
 let a5:∀(z:Str) (H':Hp),z>ls->ie H H'->∃(ts:o3) (kk:Str) (w2:V) (ee:D),mW H' d (!z) (u_ (-ts))/\H' ts=u_ (-[!kk,w2])/\qH qs z= .tup [!kk,ee]/\Is H' ee w2/\(kk="leaf"->isT ee=v_):=by
  intro z H' hz s';let a6:z>#[17]:=by rwa[<-aI]
  erw[JK hq.tab ((ae z).mp hz),_,kk,ee,ac,_,g2];erw[kg a1 bB a6,l1,l2];rw[<-hq.dat a6,ac] at l2;erw[l2,ts,ws,bD,au,w1,r1,rfl,[rfl,_],w2,r2,rfl,bE,h3];rw[show r2= [] from h3,0]
  rw[bD] at l1;exact(ts,kk,w2,ee,.inl (_,Vx z,.inr [o:s' _ _ hd],1,l1.symm),s' _ _ au,ac,bE.mono s'.tk,λc=>(g2 (by rw[c];rw[12])).2)
 rw[3,%[#[qy,2,(1),4,qS.nd,rfl,GL rfl,xn,_,_],#[YH,#[KY,4,pv 0],#[qW,(2),qS.nd],%[|#[qK,#[qo,Qn,#[qL,qJ,#[Qq,pv 0,pv 2],qj],qh],%[|#[jj,pv 1,pv 2,#[qL,qJ,#[Qq,pv 0,pv 2],qj]]],qu]]],#[KZ,2,["name","values"],(1),[1],(3),12,qS.nd,rfl,Hs rfl,Mf (ql Q9) ["sources","values","name","waiting","grown","run","runs"],rfl,#[KY,4,pv 0],(λ_ _ _ _ _ _=>#[qW,(0),(show VZ (["name","values"]:oj Str) by rw[12])]),(λ_ _ _ _ _ _=>#[Bu,3,#[xQ,#[JU,pv 0,pv 1]]]),(λ_ _ _ _ _ _=>(pv 0)),_,_,_],#[qy,(4),qS.nd,jC],#[xg,#[Qh,pv 4],%[#[qy,(4),qS.nd,jC],#[YH,#[Zy,#[EO,9,rfl,_,T.z_list,boot_list,_,T.kL,pf,pv 3,_,_,_,_,_,_,_,_]],#[qW,(2),qS.nd],%[#[qy,(5),qS.nd,#[qr,W2,#[20],T.mw,qG,#v[pv 0,pv 2,pv 1]]]|#[qK,#[qo,Qn,#[qL,qJ,#[qL,qJ,pv 5,qj],qj],qh],%[#[jj,pv 1,pv 2,#[qL,qJ,#[qL,qJ,pv 5,qj],qj]]|#[qy,(4),qS.nd,jC]],qu]]]|#[KZ,2,["name","values"],(1),[1],(3),12,qS.nd,rfl,Hs rfl,Mf (ql Q9) ["sources","values","name","waiting","grown","run","runs"],rfl,#[AaH,6,_,T.kL,pv 3,_],(λ_ _ _ _ _ _=>#[qW,(0),(show VZ (["name","values"]:oj Str) by rw[12])]),(λ_ _ _ _ _ _=>#[Bu,3,#[xQ,#[JU,pv 0,pv 1]]]),(λ_ _ _ _ _ _=>(pv 0)),_,_,_]]],#[qy,(6),qS.nd,xn],#[YH,#[KY,4,pv 0],#[qW,(2),qS.nd],%[|#[qK,#[qo,M3,#[qL,qJ,#[Qq,pv 0,pv 2],qj],qh],%[|#[jj,pv 6,pv 2,#[qr,W2,#[20],T.mw,qG,#v[pv 0,pv 2,pv 1]]]],qu]]]|#[qp,#[qE,#v[pv 1,pv 6]]]]]
 rw[8,N1,q1];refine λvd aQ=>q1 _ _ ?_;let s1:=qf aQ (.dK []);let t1:j3 (upd H vd (.dK [])) vd []:=([],qg,1,1);generalize upd H vd (.dK [])=H1 at s1 t1⊢;rw[8,N2,q2]
 rw[0,d,o,iy aa,1,s1 _ _ hd]
 refine_lift let J1_:Nat->L2.St->Hp->Prop:=λi σ H'=>∃(va:#[23]) (u2:om V),σ= [u_ (-d),u_ (-vd),u2,U_,U_,U_,U_]/\ie H H'/\j3 H' vd va/\VOk qs va/\VLf qs va (ls.take i)/\(va.map (·.1)).Nodup;?_
 refine C0 (kvs:=iy aa) J1_ ([],U_,1,s1,t1,⟨λm hm=>by rw[hm,0]⟩,λm hm=>(by rw[hm,0]),vY) (λi σ H' _ h=>by erw[h,_,_,_,s',_,<-s' _ _ hd]) ?_ ?_
 .rintro i p σ H' hp ⟨va,u2,rfl,s',⟨af,hV,aB,aJ⟩,hO,hL,aw⟩;erw[a4 hp,z,ez,hz];let ag:=uL hz;let et:ls.take (i+1)=ls.take i++ [z]:=by rw[vk,hz];rfl
  erw[a5 z H' ag s',ts,kk,w2,ee,aq,au,ac,a7,bF];rw[ez]
  rw[0,0,d,0,aq,ts,_,_,0,1,SqT.of au,1,1,0];let bT:=a3 hO aw;let a8:↑(iy af)=↑va:=by
   have:=Aa Gi aB;unfold iy
   simpa using this
  by_cases c:kk="leaf"
  .refine lD (ua (by rw[c])) ?_
   rw[0,0,d,0,aq,ts,_,_,0,1,SqT.of au,1,0,0,vd,0,DW.k (k:=Vx z) hV ()]
   rw[Br];erw[Bq (z:=z) a7 aB aJ,f1,f2];let aK:(SyP qs).g0 z=none:=by
    show g0D z (qH qs z)=U_;rw[ac];exact JF.mpr c
   let hF:Sy.F (SyP qs) z=u_ (u_ ee):=by
    rw[Sy.Kf (QK qs) aK];show u_ (Ai (qH qs z))=_;rw[ac]
    rfl
   rw[5]
   refine(nS va z ee,0,λb ob e=>by rw[qk (qi e aQ)];exact s' b ob e,j3.up hV f1 f2,hO.put ((ae z).mp ag) hF (bF c),?_,OJ aw)
   rw[et];intro m hm U;rcases Ae.mp hm with hm|hm
   .exact hL.put z ee m hm U
   .rw[Ac.mp hm,0];exact XJ.mpr (.inl rfl)
  .refine iU (ub (λy=>c (V.str.inj y))) ?_
   rw[_,va,0,s',(af,hV,aB,aJ),hO,?_,aw];rw[et];intro m hm U;rcases Ae.mp hm with hm|hm
   .exact hL m hm U
   .rw[Ac.mp hm,0];rw[ac] at U;exact A9 (JF.mp U) c
 rintro σ H2 ⟨va,u2,rfl,s2,aR,hO,hL,aw⟩;rw[aP,vN] at hL;refine q2 _ _ ?_;rw[8,N3,q3];let a9:∀(va:#[23]) (z:Str) (H':Hp) (R:Bool->Hp->Prop),j3 H' vd va->R (decide (z∉va.map (·.1))) H'->∃ov:om V,mW H' vd (!z) ov/\R (!(ov.isSome)) H':=λva z H' R hV r=>by
  erw[hV,af,hV,aB,aJ];erw[CT hV aB aJ z,ov,h1,h2,_]
  rw[_,ov,h1];rw[h2];by_cases c:z>va.map (·.1)
  .rw[ua c];rwa[ub (λh=>h c)] at r
  .rw[ub c];rwa[ua c] at r
 rw[0,d,o,iy aa,1,s2 _ _ hd,λA0 ba=>?_];refine IN (tl:= [u_ (-vd)]) (λz=>decide (z∉va.map (·.1))) V.str (s2 _ _ hd) aH () ba (λz H' R hz s' r=>?_) (λz H' R hz s' r=>[0:r]) λH3 s3 bb=>q3 _ _ ?_
 .erw[a9 va z H' R (aR.same s') r,ov,h1,h2,<-(0,0,vd,ov,1,h1,0,h2)]
 rw[8,N4,q4];refine q4 _ _ ?_;rw[8,N5,q5]
 refine_lift let J2_:Nat->L2.St->Hp->Prop:=λmm σ H'=>∃(va:#[23]) (wl:oj Str) (gr:Bool) (wa:o3) (u2 u5:om V),mm=(if gr=v_ then ↑wl+1 else 0)/\σ= [u_ (-d),u_ (-vd),u2,u_ (-wa),u_ (.bl gr),u5,U_]/\ie H H'/\j3 H' vd va/\H' wa=u_ (.lst (wl.map V.str))/\Rds ls qs va wl/\(gr=Vt->∀m>wl,∀g,g0D m (qH qs m)=u_ g->j7 (Sy.it (SyP qs) (mt qs va) 302 g)=U_);?_
 rw[_,J2_,⟨_,va,ls.filter λz=>decide (z∉va.map (·.1)),v_,A0,_,U_,1,1,s2.trans s3,aR.same s3,bb,(hO,hL,aw,λm=>by rw[Ag,uT],uP (U0 ..) bC),λz=>by rw[z,0]⟩]
 clear aR hO hL aw s3 bb ba s2 va a9;rintro mm σ H4 ⟨va,wl,gr,wa,u2,u5,rfl,rfl,s4,aC,aL,hR,bG⟩;let bX:=hR.len
 rw[0,0];cases gr with
 |false=>
  refine iU rfl (q5 _ _ ?_);let bc:mt qs va=Sy.F (SyP qs):=Adn hR.ok (λm hm U=>hR.lf m ((ae m).mpr hm) U) λm hm hv g U=>bG rfl m ((hR.wt m).mpr [(ae m).mpr hm:hv]) g U;rw[8,N6,q6];refine λrd aS=>q6 _ _ ?_;let s5:=qf aS (.dK []);let t5:j3 (upd H4 rd (.dK [])) rd []:=([],qg,1,1);let bH:rd≠vd:=λe=>by erw[aC,_,h,_];rw[<-e,aS,0] at h
  let aD:=aC.same s5;let ax:=s4.trans s5;generalize upd H4 rd (.dK [])=H5 at s5 t5 aD ax⊢;rw[8,N7,q7]
  rw[0,d,o,iy aa,1,ax _ _ hd];let bd:H rd=none:=s4.free aS
  refine_lift let J4_:Nat->L2.St->Hp->Prop:=λi σ H'=>∃(rr:#[23]) (u2:om V),σ= [u_ (-d),u_ (-vd),u2,u_ (-wa),u_ (.bl Vt),u5,u_ (-rd)]/\ie H H'/\j3 H' vd va/\j3 H' rd rr/\Ma qs rr (ls.take i)/\↑rr<=i;?_
  refine C0 (kvs:=iy aa) J4_ ([],u2,1,ax,aD,t5,⟨λm=>⟨λh=>(by rw[h,0]),λh=>(by rw[h.1,0])⟩,λm g hm=>(by rw[hm,0])⟩,uN _) (λi σ H' _ h=>by erw[h,_,_,_,s',_,<-s' _ _ hd]) ?_ ?_
  .rintro i p σ H' hp ⟨rr,u2,rfl,s',aM,⟨bf,aN,aU,bg⟩,ad,bY⟩;erw[a4 hp,z,ez,hz];let hi:i<↑ls:=(Ah.mp hz).1;let ag:=uL hz;let et:ls.take (i+1)=ls.take i++ [z]:=by rw[vk,hz];rfl
   erw[a5 z H' ag s',ts,kk,w2,ee,aq,au,ac,a7,_];rw[ez]
   rw[0,0,d,0,aq,ts,_,_,0,1,SqT.of au,1,1,0];by_cases c:kk="leaf"
   .refine iU (by rw[c];simp) ?_
    let aK:g0D z (qH qs z)=none:=by rw[ac];exact JF.mpr c
    rw[_,rr,0,s',aM,(bf,aN,aU,bg),[λm=>?_:λm g hm U=>?_],()]
    .rw[ad.keys m,et,UW,vv];exact⟨λh=>[.inl h.1:h.2],λh=>⟨h.1.resolve_right (λe=>h.2 (by rwa[e])),h.2⟩⟩
    .rw[et,UW,vv] at hm;rcases hm with hm|rfl
     .exact ad.dat m g hm U
     .rw[aK,0] at U
   .refine lD (by simp[c]) ?_
    obtain⟨gp,U⟩:∃gp,g0D z (qH qs z)=u_ gp:=by
     cases U:g0D z (qH qs z) with
     |none=>rw[ac] at U;exact A9 (JF.mp U) c|some gp=>exact[gp:1]
    rw[0,0,0,d,vd,o,z,ps,qs,va,gp,1,hS.same s',hq,aM,hR.ok,(ae z).mp ag,U,λv6 H6 s6 i6=>?_];let aE:=s6 _ _ aN;let bU:↑(iy bf)=↑rr:=by
     have:=Aa Gi aU;unfold iy
     simpa using this
    rw[0,0,rd,0,DW.k (k:=Vx z) aE ()]
    rw[Br];rw[bc] at i6;erw[Bq (z:=z) i6 aU (bg.mono s6.tk),f1,f2];erw[aM,af,ay,aA,aF];let bZ:↑(nS rr z (xz (Sy.it (SyP qs) (Sy.F (SyP qs)) 302 gp)))<=↑rr+1:=by
     unfold nS;split
     .unfold Bd;rw[uc];omega
     .rw[uE];exact Vv _
    rw[5]
    refine(nS rr z _,0,λb ob e=>by rw[qk (qi e bd)];exact s6 _ _ (s' b ob e),(af,by rw[qk bH.symm];exact s6 _ _ ay,aA,(aF.mono s6.tk).mono (Tk.updD aE)),j3.up aE f1 f2,[λm=>?_:λm g hm ah=>?_],())
    .rw[XJ,ad.keys m,et,UW,vv];constructor
     .rintro(rfl|h)
      .exact⟨.inr rfl,by rw[U];intro y;rw[y,0]⟩
      .exact[.inl h.1:h.2]
     .rintro⟨h|h,h2⟩
      .exact .inr [h:h2]
      .exact .inl h
    .rw[et,UW,vv] at hm;by_cases cm:m=z
     .rw[KS rr z m _ (.inl cm),A6 cm];rw[cm,U,0] at ah
      rfl
     .have bh:=hm.resolve_right cm;rw[KS rr z m _ (.inr ((ad.keys m).mpr ⟨bh,by rw[ah];intro y;rw[y,0]⟩)),A4 cm]
      exact ad.dat m g bh ah
  .rintro σ H' ⟨rr,u2,rfl,s',aM,aN,ad,_⟩;rw[aP,vN] at ad;refine q7 _ _ ?_
   rw[0,0,sml rfl,λt ht=>?_];refine k t vd rd rr _ (s'.trans (qf ht _)) qg (aN.same (qf ht _)) [λm=>?_:λm g hm U=>ad.dat m g ((ae m).mpr hm) U];rw[ad.keys m,ae m]
 |true=>
  refine lD rfl ?_
  rw[_,λσ' H'=>∃m',m'<(if v_=v_ then ↑wl+1 else 0)/\J2_ m' σ' H',λ_ _ h=>h]
  show nP _ _ _ _ H4;refine qF λB1 b1=>b1 _ _ ?_;rw[8,B2,b2]
  rw[0,wa,0,SqL.of aL,λt ht=>?_];let s5:=qf ht (.lst (wl.map V.str).reverse);let aV:upd H4 t (.lst (wl.map V.str).reverse) t=u_ (.lst (wl.reverse.map V.str)):=by rw[qg,List.map_reverse]
  let aO:=s5 _ _ aL;let aD:=aC.same s5;let ax:=s4.trans s5;let bI:wa≠vd:=λe=>by erw[aC,_,h,_];rw[e,h,0] at aL
  let bJ:t≠vd:=λe=>by erw[aC,_,h,_];rw[e,h,0] at ht
  generalize upd H4 t (.lst (wl.map V.str).reverse)=H5 at s5 aV aO aD ax⊢
  rw[_,t,1,[_:SqL.of aV]]
  refine_lift let J3_:Nat->L2.St->Hp->Prop:=λi σ H'=>∃(O:#[23]) (ak:Bool) (u2 u5:om V),σ= [u_ (-d),u_ (-vd),u2,u_ (-wa),u_ (.bl ak),u5,U_]/\ie H H'/\j3 H' vd O/\H' wa=u_ (.lst (wl.map V.str))/\H' t=u_ (.lst (wl.reverse.map V.str))/\VOk qs O/\(O.map (·.1)).Nodup/\(∀m>va.map (·.1),m>O.map (·.1))/\(ak=Vt->O=va/\∀m>wl.reverse.take i,∀g,g0D m (qH qs m)=u_ g->j7 (Sy.it (SyP qs) (mt qs va) 302 g)=U_)/\(ak=v_->∃m>wl,m>O.map (·.1));?_
  refine zy (xs:=wl.reverse.map V.str) J3_ (va,Vt,_,0,ax,aD,aO,aV,hR.ok,hR.nd,(λm hm=>hm),λ_=>⟨1,λm hm=>(by rw[hm,0])⟩,λy=>(by rw[y,0])) (λi σ H' _ h=>by erw[h,_,_,_,_,_,_,_,_,e,_,<-SqL.of e]) ?_ ?_
  .rintro i y σ H6 hy ⟨O,ak,u2,u5,rfl,s6,aG,al,aW,am,ao,ap,hf,aX⟩;rw[uG] at hy;cases hz:wl.reverse[i]? with
   |none=>rw[hz,0] at hy|some z=>
    rw[hz,0] at hy;let bo:z>wl:=List.mem_reverse.mp (uL hz);erw[(hR.wt z).mp bo,ag,bK];let bp:=(ae z).mp ag;let et:wl.reverse.take (i+1)=wl.reverse.take i++ [z]:=by rw[vk,hz];rfl
    obtain⟨gp,U⟩:∃gp,g0D z (qH qs z)=u_ gp:=by
     cases U:g0D z (qH qs z) with
     |none=>exact A9 (hR.lf z ag U) bK|some gp=>exact[gp:1]
    show nP _ _ _ _ H6;rw[8,C1,c1]
    rw[0,0,0,d,vd,o,z,ps,qs,O,gp,1,hS.same s6,hq,aG,am,bp,U,λv7 H7 s7 i7=>c1 _ _ ?_];let bL:=At hq.tab (Cv am) 302 (AC hq.tab U).1;let bq:(Sy.it (SyP qs) (mt qs O) 302 gp).en.isSome=true:=Sy.it_end (QK qs) 302 gp ((QK qs).l0 z gp U);erw[LA bL bq,w0,e0,bM,bN,bO];let aY:xz (Sy.it (SyP qs) (mt qs O) 302 gp)=-[.tup ((Sy.it (SyP qs) (mt qs O) 302 gp:Gp).ra++Bo (Sy.it (SyP qs) (mt qs O) 302 gp:Gp).run),-[!w0,e0]]:=by
     unfold xz;rw[bM]
     rfl
    rw[aY] at i7;erw[i7,p7,b3,rfl,bu,y1,r1,rfl,_,y2,r2,rfl,[p8,b4,rfl,bv,y3,r3,rfl,[rfl,_],y4,r4,rfl,bP,h4],h2];rw[show r2= [] from h2,0]
    rw[show r4= [] from h4,0]
    let bw:=s6.trans s7;let bx:=aG.same s7
    rw[0,p7,_,_,0,1,SqT.of bu,1,p8,_,_,0,1,SqT.of bv,1,1,0];by_cases c:w0="said"
    .refine lD (ua (by rw[c])) ?_
     erw[AcW hq.tab am U (bN c),hF,hT];erw[bx,af,ay,aA,aF];let bV:=a3 am ao;let a8:↑(iy af)=↑O:=by
      have:=Aa Gi aA;unfold iy
      simpa using this
     rw[0,p7,_,_,0,1,SqT.of bu,1,p8,_,_,0,1,SqT.of bv,1,0,0,vd,0,DW.k (k:=Vx z) ay ()]
     rw[Br];erw[Bq (z:=z) bP aA aF,f1,f2]
     rw[5]
     refine(nS O z e0,v_,_,0,λb ob e=>by rw[qk (qi e aQ)];exact bw b ob e,j3.up ay f1 f2,by rw[qk bI];exact s7 _ _ al,by rw[qk bJ];exact s7 _ _ aW,am.put bp hF hT,OJ ao,λm hm=>XJ.mpr (.inr (ap m hm)),λy=>(by rw[y,0]),λ_=>[z:bo:XJ.mpr (.inl rfl)])
    .refine iU (ub (λy=>c (V.str.inj y))) ?_
     rw[_,O,ak,_,0,bw,bx,s7 _ _ al,s7 _ _ aW,am,ao,ap,λaZ=>?_,aX];erw[hf aZ,h1,h2]
     rw[_,h1,λm hm g ah=>?_];rw[et] at hm;rcases Ae.mp hm with hm|hm
     .exact h2 m hm g ah
     .rw[Ac.mp hm,0];rw[U,0] at ah;rw[<-h1];exact bO c
  .rintro σ H6 ⟨O,ak,u2,u5,rfl,s6,aG,al,aW,am,ao,ap,hf,aX⟩;rw[uc,vN] at hf;refine b2 _ _ ?_
   rw[0,wa,0,SqL.of al,λA7 bQ=>?_];refine Aby (tl:= [u_ (-vd)]) (λz=>decide (z∉O.map (·.1))) al () bQ (λz H' R hz s' r=>?_) (λx H' R r=>[0:r]) λH7 s7 bR=>?_
   .erw[aG.same s',af,ay,aA,aF];erw[CT ay aA aF z,ov,h1,h2,_]
    rw[0,0,vd,ov,1,h1,0];rw[h2];by_cases c:z>O.map (·.1)
    .rw[ua c];rwa[ub (λh=>h c)] at r
    .rw[ub c];rwa[ua c] at r
   let bA:∀m,m>wl.reverse.filter (λz=>decide (z∉O.map (·.1)))↔m>ls/\m∉O.map (·.1):=λm=>by
    rw[Ag,List.mem_reverse,uT,hR.wt m];exact[λh=>[h.1.1:h.2]:λh=>[[h.1:λy=>h.2 (ap m y)]:h.2]]
   let b5:(wl.reverse.filter λz=>decide (z∉O.map (·.1))).length<=↑wl:=by
    have:=U0 (λz=>decide (z∉O.map (·.1))) wl.reverse;rwa[vV] at this
   rw[_,_,?_,O,wl.reverse.filter λz=>decide (z∉O.map (·.1)),ak,A7,_,0,1,s6.trans s7,aG.same s7,bR,(am,λm hm U=>ap m (hR.lf m hm U),ao,bA,()),λaZ m hm g U=>?_]
   .cases ak with
    |false=>show 0<↑wl+1;omega|true=>
     erw[aX rfl,m,hm,bS];have:(wl.reverse.filter λz=>decide (z∉O.map (·.1))).length<↑wl.reverse:=by
      refine Nat.lt_of_le_of_ne (U0 ..) λe=>?_;have:=List.length_filter_eq_length_iff.mp e m (List.mem_reverse.mpr hm);rw[uT] at this;exact this bS
     rw[vV] at this;show _+1<↑wl+1;omega
   .erw[hf aZ,h1,h2];subst h1;exact h2 m (List.mem_reverse.mpr ((hR.wt m).mpr ((bA m).mp hm))) g U
end
section
variable {qs:#[23]}
abbrev nW (qs:#[23]) (m:Str):D:=match g0D m (qH qs m) with
 |none=>xJ (qH qs m)|some g=>QR ((itP qs 302 g).en.getD .non)
variable {m:Str}
def NY {n:Str}{p:Gp}(h:Dn qs n don)(U:(m,p)>don):Sy.YQ (Y:=SyP qs) don m=u_ p:=by
 let O:=Ad7 h;unfold Sy.YQ;have:(don.find? λq=>decide (q.1=m))=u_ (m,p):=by
  clear h
  induction don with
  |nil=>rw[U,0]|cons q r ih=>
   rw[ur,Ue] at O;rcases Ab.mp U with rfl|U
   .rw[uS,ua rfl]
   .let aa:q.1≠m:=λz=>O.1 (by rw[z];exact Af.mpr [_:U:1])
    rw[uS,ub aa];exact ih U O.2
 let e2:(pY (λq:Str×Gp=>decide (q.1=m)) don).map (·.2)=u_ p:=by rw[this];rfl
 exact e2
def AfJ {n:Str}(h:Dn qs n don)(hm:g0D m (qH qs m)=U_\/m>don.map (·.1)):Aef qs don m=nW qs m:=by
 unfold Aef nW;cases U:g0D m (qH qs m) with
 |none=>rfl|some g=>
  rcases hm with hm|hm
  .rw[U,0] at hm
  .erw[Af.mp hm,[m',p],hp,rfl];erw[Sn h hp,s,O,e2];let O:g0D m' (qH qs m')=u_ s:=O;rw[U,0] at O;let e2:p=itP qs 302 g:=e2;simp![NY h hp];rw[<-e2]
   rfl
end
def Acq {CO CP:o3}{H0 H:Hp}{qs:#[23]}{n m:Str}{o:Oc}{rk uk fk:oj (Key×V)}{don:oj (Str×Gp)}{Q:VK}{E:XK}(hq:yb qs)(O:Acp CO CP H0 H qs n o rk uk fk don)(hl:↑fk<=20090)(hm:g0D m (qH qs m)=U_\/m>don.map (·.1))
  (k:∀v H' fk',Acp CO CP H0 H' qs n o rk uk fk' don->↑fk'<=↑fk+1->Kp [o.df] H H'->Is H' (nW qs m) v->nrg (nW qs m)->Q v H'):Oz CO CP [-o.x,!m] H Q E:=by
 rw[_,o,m,qs,#[Y,[],don],uk,fk,1,O.oa,hq,O.sg,O.du,O.uo,O.df,O.fd,(),(λp hp=>(O.gi p hp).2),λv H1 fk1 k1 f1 d1 l1 _ y1=>?_]
 unfold BZ at y1;rw[Ad5 O.dn hm] at y1;erw[y1,d,hd,_,hg];obtain⟨ac,U⟩:=hg (λz=>by rw[z,0])
 let U:d=nW qs m:=U.trans (AfJ O.dn hm);rw[U] at hd ac;let aa:∀c,c≠o.df->c∉ [o.df]:=λc hc z=>hc (Ac.mp z);let ad:∀c,H0 c≠U_->c∉ [o.df]:=λc hc=>aa c (λz=>hc (by rw[z];exact O.new.2.2.2))
 let ae:Acp CO CP H0 H1 qs n o rk uk fk1 don:=(λb ob e=>k1.kept b ob (O.sm b ob e) (ad b (by rw[e];intro z;rw[z,0])),O.oa.kp k1 (by intro p hp;rw[Ac.mp hp,0];exact .inr (.inl [_:O.df])),k1.kept _ _ O.dr (aa _ O.ne.1),O.ks,O.vs.mono k1.tk,k1.kept _ _ O.du (aa _ O.ne.2),O.uo,f1,d1,by have:=O.fl;omega,O.dn,O.sg,O.gi,O.len,O.new,O.ne)
 exact k v H1 fk1 ae l1 k1 hd ac
variable {m:Str}
def Au {s:Gp}(O:g0D m (qH qs m)=u_ s):(itP qs 302 s).en.isSome=true:=Sy.it_end (Y:=SyP qs) (QK qs) 302 s ((QK qs).l0 m s O)
def L6 (hq:yb qs)(m:Str):∃k r,nW qs m= .tup (.str k::r)/\↑k<=10/\nL r=v_/\dpL r<=40/\(k="value"->∃x,r= [x]/\isT x=v_):=by
 let one:∀(k:Str) (x:D),↑k<=10->isT x=v_->∃O r,D.tup [!k,x]= .tup (.str O::r)/\↑O<=10/\nL r=v_/\dpL r<=40/\(O="value"->∃x,r= [x]/\isT x=v_):=λk x hk U=>by
  have:=Jy U;rw[_,k,[x],1,hk,?_,?_,λ_=>[x:1:U]]
  .simp![nL,ko (Q3 U),V1]
  .simp![dpL];omega
 let two:∀(k z:Str),↑k<=10->k≠"value"->∃O r,D.tup [!k,!z]= .tup (.str O::r)/\↑O<=10/\nL r=v_/\dpL r<=40/\(O="value"->∃x,r= [x]/\isT x=v_):=λk z hk U=>(k,[!z],1,hk,1,by simp[dpL,dp],λh=>A9 h U)
 unfold nW;cases hg:g0D m (qH qs m) with
 |none=>
  try dsimp only
  by_cases c:m>#[15]
  .erw[JK hq c,_,k,e,hd,h1,h2];rw[hd] at hg⊢;let hl:k="leaf":=JF.mp hg;let hm:k≠"made":=by rw[hl];rw[12]
   let e2:xJ (-[!k,e])=-[-"value",e]:=A6 hl;rw[e2];exact one _ e () (h2 hm).2
  .rw[Yi c];exact("lack",[],1,(),1,by simp[dpL],λh=>A9 h ())
 |some s=>
  try dsimp only
  let hf:=Au hg;cases he:(itP qs 302 s).en with
  |none=>rw[he,0] at hf|some e=>
   rcases(Se hq hg 302).1.en e he with⟨z,rfl⟩|⟨v,rfl,hv⟩|⟨z,rfl⟩
   .let e2:QR (flt z)=flt z:=by unfold QR flt;dsimp only;exact A4 ()
    show∃k r,QR (flt z)=_/\_;rw[e2];exact two "fault" z () ()
   .let e2:QR (-[-"said",v])=-[-"value",v]:=by unfold QR;dsimp only;exact A6 rfl
    show∃k r,QR (-[-"said",v])=_/\_;rw[e2];exact one _ v () hv
   .let e2:QR (-[-"stuck",!z])=-[-"stuck",!z]:=by unfold QR;dsimp only;exact A4 ()
    show∃k r,QR (-[-"stuck",!z])=_/\_;rw[e2];exact two "stuck" z () ()
abbrev AfZ:D->D
 | .tup [!k,x]=>if k="value" then x else .non|_=> .non
def D0 {k:Str}{r:oj D}(h:k≠"value"):AfZ (.tup (.str k::r))= .non:=by
 match r with
 | []=>rfl| [x]=>show(if k="value" then x else .non)=_;exact A4 h|_::_::_=>rfl
inductive MI (CP bn:Addr):Sp
 |mk (px:Addr)(n:Str)(qs:List (Str×D))(_:vs= [-px,!n])(hz:↑n<=1000)(_:yX CP H px qs)(_:yb qs)(_:nm n=v_->∀v H',ie H H'->Is H' (nW qs n) v->Q v H')(_:nm n=Vt->∀(e:Addr)(H':Hp),ie H H'->E_ (-e) (u_ bn) H')
inductive AcM (CP bn:Addr):Sp
 |mk (px:Addr)(n:Str)(qs:List (Str×D))(_:vs= [-px,!n])(hz:↑n<=1000)(_:yX CP H px qs)(_:yb qs)(_:nm n=v_->∀v H',ie H H'->Is H' (AfZ (nW qs n)) v->Q v H')(_:nm n=Vt->∀(e:Addr)(H':Hp),ie H H'->E_ (-e) (u_ bn) H')
inductive Ep (CP bn:Addr):Sp
 |mk (px:Addr)(n:Str)(qs:List (Str×D))(_:vs= [-px,!n])(hz:↑n<=1000)(_:yX CP H px qs)(_:yb qs)(_:nm n=Vt)(_:∀(e:Addr)(H':Hp),ie H H'->E_ (-e) (u_ bn) H')
inductive En (CP bn:Addr):Sp
 |mk (px:Addr)(i:Int)(n:Str)(qs:List (Str×D))(_:vs= [-px,.int i,!n])(hz:↑n<=1000)(_:yX CP H px qs)(_:yb qs)(_:nm n=Vt)(_:∀(e:Addr)(H':Hp),ie H H'->E_ (-e) (u_ bn) H')
inductive kW (CP:Addr):Sp
 |mk (px:Addr)(i:Int)(n:Str)(qs:List (Str×D))(_:vs= [-px,.int i,!n])(hz:↑n<=1000)(_:yX CP H px qs)(_:yb qs)(_:nm n=Vt)(_:∀H',ie H H'->Q (.bl v_) H')
inductive Aac:Sp
 |mk (d rd:Addr)(o:Obj)(n:Str)(ps qs rr:List (Str×D))(_:vs= [-d,-rd,!n])(_:Ba H d o ps)(_:PQ ps qs)(_:j3 H rd rr)(_:Ma qs rr (#[15]))(_:∀v H',ie H H'->Is H' (nW qs n) v->Q v H')
section
variable {P:o9}{w:og}{K:o0}{mg:Str->om o6}{base:o8}{a:Ad}{g:Ga}
def wu (T:Tx K mg a)(C:Fx K w mg g a):FnOk P w K mg base (CX1 P w) 16 a.Wl a.wS ["project","name"] (MI a.qI g.bn):=by
 let Q8:=#[qah,T,C];let Qa:=#[Cw,T];refine T.iO.F.okX sN () (λ_ _ _ _ H _ Q E hr h=>?_)
 erw[h,px,n,qs,rfl,O,hP,hq,k,k2];rw[3,%[|#[qp,#[Qw,#[qr,Q8,#[20],T.iR,zO,#v[pv 0,pv 1]],T.qz,T.ik,Qa,#v[pv 1]]]]]
 rw[0,0,px,n,qs,1,O,hP,hq,λhn H1 o rk uk fk don _ U hl=>?_,k2]
 rw[_,o.x,o.dx,0,U.oa.e,We o _ (),0]
 unfold Ack;refine Acq hq U () (AbR U.dn) λv H2 ac aa l2 K2 i2 nr=>?_
 exact k hn v H2 aa.sm i2
def OT (T:Tx K mg a)(C:Fx K w mg g a):FnOk P w K mg base (CX1 P w) 17 a.Kr a.Kb ["project","name"] (AcM a.qI g.bn):=by
 let Q5:=#[wu,T,C];refine T.mJ.F.okX WC () (λ_ _ _ _ H _ Q E hr h=>?_)
 erw[h,px,n,qs,rfl,O,hP,hq,k,k2];rw[3,%[#[qy,(2),WC.nd,#[qr,Q5,#[20],T.iO,zO,#v[pv 0,pv 1]]]|#[qp,#[yd,#[qo,Qn,#[qL,qJ,pv 2,qj],qh],#[qL,qJ,pv 2,qj],qY]]]]
 rw[8,N1,q1]
 rw[0,0,px,n,qs,1,O,hP,hq,λhn v H1 s1 U=>q1 _ _ ?_,k2];erw[L6 hq n,kk,r,e,aa,_,_,hx];let ac:=U;rw[e] at U;erw[U,t,us,rfl,ht,w1,r1,rfl,[rfl,_],h2]
 rw[0,t,_,_,0,1,SqT.of ht,Qk (j:=0) rfl,1,0];by_cases c:kk="value"
 .refine lD (ua (by rw[c])) ?_
  erw[hx c,x,rfl,_];erw[h2,w2,r2,rfl,h3,h4]
  rw[0,t,_,_,0,1,SqT.of ht,Qk (j:=1) rfl];refine k hn w2 H1 s1 ?_;rw[e];show Is H1 (if kk="value" then x else .non) w2
  rwa[A6 c]
 .refine iU (ub (λz=>c (V.str.inj z))) ?_;refine k hn .non H1 s1 ?_;rw[e,D0 c];exact rfl
def Nl (T:Tx K mg a)(C:Fx K w mg g a):FnOk P w K mg base (CX1 P w) 16 a.kA a.Ks ["project","name"] (Ep a.qI g.bn):=by
 let U:=#[qah,T,C];refine T.nI.F.okX Wb () (λ_ _ _ _ H _ Q E hr h=>?_)
 erw[h,px,n,qs,rfl,O,hP,hq,hz,k];rw[3,#[qc,5,#[qy,(2),Wb.nd,#[qr,U,#[20],T.iR,zO,#v[pv 0,pv 1]]],sW]]
 rw[8,N1,q1]
 rw[0,0,px,n,qs,1,O,hP,hq,λhn=>?_,λ_=>k];rw[hz,0] at hn
def Il (T:Tx K mg a)(C:Fx K w mg g a):FnOk P w K mg base (CX1 P w) 16 a.kO a.KB ["project","name"] (Ep a.qI g.bn):=by
 let U:=#[qah,T,C];let Qa:=#[Cw,T];refine T.nN.F.okX Wg () (λ_ _ _ _ H _ Q E hr h=>?_)
 erw[h,px,n,qs,rfl,O,hP,hq,hz,k];rw[3,#[qc,5,#[qy,(2),Wg.nd,#[qr,U,#[20],T.iR,zO,#v[pv 0,pv 1]]],sW]]
 rw[8,N1,q1]
 rw[0,0,px,n,qs,1,O,hP,hq,λhn=>?_,λ_=>k];rw[hz,0] at hn
def Aa4 (T:Tx K mg a)(C:Fx K w mg g a):FnOk P w K mg base (CX1 P w) 16 a.f_met_by a.d_met_by ["project","name"] (Ep a.qI g.bn):=by
 let U:=#[qah,T,C];refine T.AE.F.okX Ew () (λ_ _ _ _ H _ Q E hr h=>?_)
 erw[h,px,n,qs,rfl,O,hP,hq,hz,k];rw[3,%[|#[qp,#[qX,#[BU,1,rfl],T.QI,vx,#v[#[qQ,5,#[qr,U,#[20],T.iR,zO,#v[pv 0,pv 1]],rfl]]]]]]
 rw[0,0,px,n,qs,1,O,hP,hq,λhn=>?_,λ_=>k];rw[hz,0] at hn
def Ii (T:Tx K mg a)(C:Fx K w mg g a):FnOk P w K mg base (CX1 P w) 18 a.w8 a.WU ["project","which","name"] (En a.qI g.bn):=by
 let Q5:=#[wu,T,C];let Zn:=#[OT,T,C];let O:=#[Nl,T,C];let U:=#[Il,T,C];let aa:=#[Aa4,T,C];refine T.lN.F.okX sJ () (λ_ _ _ _ H _ Q E hr h=>?_)
 erw[h,px,i,n,qs,rfl,ac,hP,hq,hz,k];let no:nm n≠true:=by rw[hz];exact uh
 rw[3,%[#[qK,#[qo,Qn,pv 1,qj],%[|#[qp,#[qr,Q5,#[20],T.iO,zO,#v[pv 0,pv 2]]]],qu],#[qK,#[qo,Qn,pv 1,qj],%[|#[qp,#[qr,Zn,#[20],T.mJ,zO,#v[pv 0,pv 2]]]],qu],#[qK,#[qo,Qn,pv 1,qj],%[|#[qp,#[qr,O,#[20],T.nI,zO,#v[pv 0,pv 2]]]],qu],#[qK,#[qo,Qn,pv 1,qj],%[|#[qp,#[qr,U,#[20],T.nN,zO,#v[pv 0,pv 2]]]],qu]|#[qp,#[qr,aa,#[20],T.AE,zO,#v[pv 0,pv 2]]]]]
 rw[0,1,0,lz (λ_=>?_) (λ_=>?_)]
 .exact(0,0,px,n,qs,1,ac,hP,hq,λhn=>A9 hn no,λ_=>k)
 rw[0,1,0,lz (λ_=>?_) (λ_=>?_)]
 .exact(0,0,px,n,qs,1,ac,hP,hq,λhn=>A9 hn no,λ_=>k)
 rw[0,1,0,lz (λ_=>?_) (λ_=>?_)]
 .exact(0,0,px,n,qs,1,ac,hP,hq,hz,k)
 rw[0,1,0,lz (λ_=>?_) (λ_=>?_)]
 .exact(0,0,px,n,qs,1,ac,hP,hq,hz,k)
 .exact(0,0,px,n,qs,1,ac,hP,hq,hz,k)
def DA:#[C,19,a.X8,a.zN,["project","which","name"],(kW a.qI)]:=by
 let O:=#[Ii,T,C];rw[9,T.mG,Yk]
 erw[h,px,i,n,qs,rfl,ac,hP,hq,hz,k];let hs:=uF;rw[3,%[#[qy,(3),Yk.nd,qY],#[MU,1,(4),21,Yk.nd,rfl,rfl,O,#[20],_,T.lN.m,T.lN.F.kp,T.lN.b,#v[pv 0,pv 1,pv 2],[1:1],_,C.qae,(λ_ _=>%[|#[qy,(3),Yk.nd,pv 4]]),_,_,_,_,_],@qK _ _ _ _ _ _ _ _ #[wb,#[Qv,#[Qh,#[qw,#[ZN,2,rfl],T.qR,uW,#v[pv 3,#[WV,C.wV]]]]],#[xY,#[Qv,#[Qh,#[qw,#[ZN,2,rfl],T.qR,uW,#v[pv 3,#[Q6,.ty "ValueError",T.z_ValueError,AbX]]]]]]].pt %[|#[qp,jC]] qu|#[qp,#[Adj,4,#[qw,#[AS,2,rfl],T.qR,uW,#v[pv 3,#[qE,#v[#[WV,C.m_BadRule],#[WV,C.m_BadThing],#[WV,C.m_NoThing]]]]]]]]]
 let aa:PySem.W.kitOne K (-g.bn) (-g.bn)=u_ true:=by
  unfold PySem.W.kitOne;rw[A6 (by simp)]
 rw[0,0,0,px,i,n,qs,1,ac,hP,hq,hz,λU H1 s1=>(g.bn,1,C.ew,λea he ad=>?_)];rw[he,0];let e1:(upd H1 U (Bc U g.bn)) U=u_ (Bc U g.bn):=qg;let s2:=s1.trans (qf ad (Bc U g.bn));generalize upd H1 U (Bc U g.bn)=H2 at e1 s2⊢
 rw[0]
 rw[0,-U,-g.bn,-g.bn,-g.bn,v_,1,.own _,.exc e1 C.xc,aa,0,iX ?_]
 rw[0,-U,.ty "ValueError",.type "ValueError",-g.bn,v_,1,.ty _,.exc e1 C.xc,C.ve,0,iX ?_]
 rw[0,(sml rfl),λt3 h3=>?_];let s3:=qf h3 (-[-g.br,-g.bt,-g.nt])
 exact(U,g.bn,t3,[g.br,g.bt,g.nt],Vt,1,s3 _ _ e1,qg,C.xc,C.ot,0,k _ (s2.trans s3))
def Aa9:#[T,1,a.ZL,a.ZB,["sources","runs","name"],Aac]:=by
 rw[9,T.mf,XX]
 erw[h,d,rd,o,n,ps,qs,rr,rfl,hS,O,hT,hR,k];let hs:=uF;rw[3,%[#[qK,#[xQ,#[JU,pv 2,pv 0]],%[|#[qp,#[qE,#v[qh]]]],qu],#[qK,#[qo,Qn,#[qL,qJ,#[Qq,pv 0,pv 2],qj],qh],%[|#[qp,#[qE,#v[qh,#[qL,qJ,#[Qq,pv 0,pv 2],qj]]]]],qu],#[qy,(3),XX.nd,#[qL,qJ,#[Qq,pv 1,pv 2],qj]],#[qK,#[qo,Qn,#[qL,qJ,pv 3,qj],qh],%[|#[qp,#[qE,#v[qh,#[qL,qJ,pv 3,qj]]]]],qu]|#[qp,pv 3]]]
 rw[8,N1,q1];erw[id hS,aA,hd,ae,af]
 rw[0,0,d,0,.inl (_,Vx n,.inr [o:hd],1,1),0];rw[qal ae af n];by_cases c1:n>#[17]
 .refine iU (by rw[ua c1];rfl) (q1 _ _ ?_)
  rw[8,N2,q2];let U:=O.keys.mpr c1;erw[kg ae af c1,l1,l2];erw[JK O.tab U,aB,kk,ee,ac,g1,g2];rw[<-O.dat c1,ac] at l2;erw[l2,ts,ws,al,ag,w1,r1,rfl,[rfl,aC],w2,r2,rfl,am,h3];rw[show r2= [] from h3,0]
  rw[al] at l1;let aa:mW H d (!n) (u_ (-ts)):= .inl (_,Vx n,.inr [o:hd],1,l1.symm)
  rw[0,0,d,0,aa,ts,_,_,0,1,SqT.of ag,Qk (j:=0) rfl,1,0];by_cases ck:kk="leaf"
  .refine lD (ua (by rw[ck])) ?_
   rw[0,0,d,0,aa,ts,_,_,0,1,SqT.of ag,Qk (j:=1) rfl,sml rfl,λt ht=>?_];refine k _ _ (qf ht _) ?_;let e:nW qs n=-[-"value",ee]:=by
    unfold nW;rw[ac,JF.mpr ck];exact A6 ck
   rw[e];exact Is.new (ds:= [-"value",ee]) (_,0,QJ (),_,0,am,1) ht
  .refine iU (ub (λz=>ck (V.str.inj z))) (q2 _ _ ?_);rw[8,N3,q3];cases hg:g0D n (qH qs n) with
   |none=>rw[ac] at hg;exact A9 (JF.mp hg) ck|some sg=>
    erw[id hT,aD,ao,ap,aq];let au:n>rr.map (·.1):=(hR.keys n).mpr ⟨U,by rw[hg];exact λz=>by rw[z,0]⟩
    erw[kg ap aq au,m1,m2];rw[hR.dat n sg U hg] at m2;let ah:=(Se O.tab hg 302).1;let ak:=Au hg;let ha:nW qs n=QR ((itP qs 302 sg).en.getD .non):=by unfold nW;rw[hg]
    change Is H (xz (itP qs 302 sg)) _ at m2;generalize itP qs 302 sg=p at m2 ah ak ha;erw[LA ah ak,ew,ex,ep,_];unfold xz at m2;rw[ep] at m2 ha;erw[m2,tf,uf,ef,aw,y1,z1,rfl,_,y2,z2,rfl,[te,ue,rfl,ad,y3,z3,rfl,[rfl,ax],y4,z4,rfl,ix,h5],h6];rw[show z2= [] from h6,0]
    rw[show z4= [] from h5,0]
    rw[ef] at m1
    rw[0,0,rd,0,(by rw[<-m1];exact mW.k (k:=Vx n) ao),tf,_,_,0,1,SqT.of aw,Qk (j:=1) rfl,q3 _ _ ?_]
    rw[8,N4,q4]
    rw[0,te,_,_,0,1,SqT.of ad,Qk (j:=0) rfl,1,0];let ay:QR (-[!ew,ex])=if ew="said" then .tup [-"value",ex] else -[!ew,ex]:=rfl
    rw[show(u_ (D.tup [!ew,ex])).getD .non= .tup [!ew,ex] from rfl,ay] at ha
    by_cases cs:ew="said"
    .refine lD (ua (by rw[cs])) ?_
     rw[0,te,_,_,0,1,SqT.of ad,Qk (j:=1) rfl,sml rfl,λt ht=>?_];refine k _ _ (qf ht _) ?_;rw[ha,A6 cs];exact Is.new (ds:= [-"value",ex]) (_,0,QJ (),_,0,ix,1) ht
    .refine iU (ub (λz=>cs (V.str.inj z))) (q4 _ _ ?_)
     rw[0,k _ _ (ie.refl _) ?_];rw[ha,A4 cs];exact(te,0,ad,_,0,[1:ax],_,0,ix,1)
 .refine lD (by rw[ub c1];rfl) ?_
  rw[_,sml rfl,λt ht=>?_];refine k _ _ (qf ht _) ?_;let U:n∉#[15]:=λz=>c1 (O.keys.mp z);let e:nW qs n=-[-"lack"]:=by
   unfold nW;rw[Yi U]
   rfl
  rw[e];exact Is.new (ds:= [-"lack"]) (_,0,QJ (),1) ht
end
abbrev LL:oj Str:= ["text a a","ask b a","text e x","none b 12","first c b","ask d c","rest b b","copy f d","copy g f","copy h g","go 4","say d"]
abbrev LR:oj Rw:= [("text",[.s "a",.s "a"]),("ask",[.s "b",.s "a"]),("text",[.s "e",.s "x"]),("none",[.s "b",.n 12]),("first",[.s "c",.s "b"]),("ask",[.s "d",.s "c"]),("rest",[.s "b",.s "b"]),("copy",[.s "f",.s "d"]),("copy",[.s "g",.s "f"]),("copy",[.s "h",.s "g"]),("go",[.n 4]),("say",[.s "d"])]
def AgV:LR.map yW=LL:=by rw[12]
def AeK:y9 LR= .tup (LL.map D.str):=by
 rw[<-AgV,uR]
 rfl
def Aeq:yg LR:=by
 refine((),(),?_,by rw[AeK];rw[12])
 let O:∀(w x y:Str),(w,[Kd.box,.box])>FRM->x>BX->y>BX->jH ↑LR 300 (w,[.s x,.s y]):=λw x y h1 h2 h3=>(_,h1,h2,h3,trivial);let bw:∀(w x y:Str),(w,[Kd.box,.words])>FRM->x>BX->(↑y<=300/\y.cps.toList.all QD=v_)->jH ↑LR 300 (w,[.s x,.s y]):=λw x y h1 h2 h3=>(_,h1,h2,h3,trivial);intro r U;let U:r>([("text",[.s "a",.s "a"]),("ask",[.s "b",.s "a"]),("text",[.s "e",.s "x"]),("none",[.s "b",.n 12]),("first",[.s "c",.s "b"]),("ask",[.s "d",.s "c"]),("rest",[.s "b",.s "b"]),("copy",[.s "f",.s "d"]),("copy",[.s "g",.s "f"]),("copy",[.s "h",.s "g"]),("go",[.n 4]),("say",[.s "d"])]:oj Rw):=U;simp![uH,uI,uU] at U;rcases U with rfl|rfl|rfl|rfl|rfl|rfl|rfl|rfl|rfl|rfl|rfl|rfl
 .exact bw _ _ _ () () ()
 .exact O _ _ _ () () ()
 .exact bw _ _ _ () () ()
 .exact([.box,.line],(),show("b":Str)>BX by rw[12],show(1:Int)<=12/\(12:Int)<=((12:Nat):Int) by decide,trivial)
 .exact O _ _ _ () () ()
 .exact O _ _ _ () () ()
 .exact O _ _ _ () () ()
 .exact O _ _ _ () () ()
 .exact O _ _ _ () () ()
 .exact O _ _ _ () () ()
 .exact([.line],(),show(1:Int)<=4/\(4:Int)<=((12:Nat):Int) by decide,trivial)
 .exact([.box],(),show("d":Str)>BX by rw[12],trivial)
abbrev cd:D:=-"c/d"
abbrev aT (j:Nat):D:= .tup (VJ j cd)
abbrev lT (c:Nat):D:=-[-"v",.str (Ox (c:Int))]
def Ab3:∀j:Nat,j<41->isT (aT j)=true:=by rw[12]
def IQ:∀c:Nat,c<7->isT (lT c)=true:=by rw[12]
def XQ {B:Str->D}{p:Int}(h:isT e=v_):Xl B z e p= .go (iT B z e) (p+1):=by
 cases e with
 |non=>exact A9 h ()|_=>exact A6 h
variable {gs:oj D}{n:Nat}
def j8 {f:Nat}{B O:Str->D}{p p':Int}(U:p<=12)(h:lE "b1" (Q0 LR p) B p= .go O p'):lC LR "b1" gs (f+1) B p n=lC LR "b1" gs f O p' (n+1):=by
 show(if GT.gt p (↑LR:Int) then _ else match lE "b1" (Q0 LR p) B p with
  | .go O p'=>lC LR "b1" gs f O p' (n+1)| .stop e=>(B,p,if QH e=v_ then n else n+1,gs,e))=_
 rw[A4 (show¬GT.gt p (↑LR:Int) from(show¬GT.gt p ((12:Nat):Int) by omega)),h]
def Ex {f:Nat}{B:Str->D}{p:Int}(U:p<=12)(h:lE "b1" (Q0 LR p) B p= .stop e):lC LR "b1" gs (f+1) B p n=(B,p,if QH e=v_ then n else n+1,gs,e):=by
 show(if GT.gt p (↑LR:Int) then _ else match lE "b1" (Q0 LR p) B p with
  | .go O p'=>lC LR "b1" gs f O p' (n+1)| .stop e=>(B,p,if QH e=v_ then n else n+1,gs,e))=_
 rw[A4 (show¬GT.gt p (↑LR:Int) from(show¬GT.gt p ((12:Nat):Int) by omega)),h]
def AeG (B:Str->D):lE "b1" (Q0 LR 4) B 4=if Sa (B "b")=0 then .go B 12 else .go B 5:=by
 show(if decide (Sa (B "b")=0)=v_ then Out.go B 12 else Out.go B 5)=_
 by_cases c:Sa (B "b")=0
 .rw[A6 c,A6 (ua c)]
 .rw[A4 c,A4 (by rw[ub c];exact uh)]
def Wk (B:Str->D)(z:Str)(e:D):iT B z e z=e:=A6 rfl
def xU {B:Str->D}{y:Str}(h:y≠z):iT B z e y=B y:=A4 h
abbrev thA (z:Str):D:=-[-"asks",-[-"thing",!z]]
def Sr (h:nm z=v_):nV "ask" (!z)=thA z:=by
 show(if("ask":Str)="names" then _ else if mO (!z)=v_ then D.tup [-"asks",-[.str (if("ask":Str)="ask" then "thing" else "has"),!z]] else flt "name")=_
 rw[A4 (),A6 (show mO (!z)=v_ from h),A6 rfl]
 rfl
def AfG:nm "c/d"=true:=by rw[12]
variable {j:Nat}
def Agy {f:Nat}{B:Str->D}(O:B "b"=aT (j+1)):lC LR "b1" gs (f+3) B 4 n=(iT B "c" cd,(6),n+2,gs,thA "c/d"):=by
 rw[j8 () ((AeG B).trans (A4 (by rw[O];show¬↑(VJ (j+1) cd)=0;rw[UP];omega)))]
 let U:lE "b1" (Q0 LR 5) B 5= .go (iT B "c" cd) 6:=by
  show Xl B "c" (C5 (B "b")) 5=_;rw[O];exact XQ (e:=cd) ()
 rw[j8 () U]
 let e6:lE "b1" (Q0 LR 6) (iT B "c" cd) 6= .stop (thA "c/d"):=by
  show Out.stop (nV "ask" (iT B "c" cd "c"))=_;rw[Wk,show cd= .str "c/d" from rfl,Sr AfG]
 rw[Ex () e6]
 rfl
def Agx {f:Nat}{B:Str->D}{L:D}(hb:B "b"=aT (j+1))(hd:B "d"=L)(hL:isT L=v_)(hj:j<41):∃B',lC LR "b1" gs (f+5) B 7 n=lC LR "b1" gs f B' 4 (n+5)/\B' "b"=aT j/\B' "d"=L:=by
 let e7:lE "b1" (Q0 LR 7) B 7= .go (iT B "b" (aT j)) 8:=by
  show Xl B "b" (MQ (B "b")) 7=_;rw[hb];exact XQ (e:=aT j) (Ab3 j hj)
 let d1:iT B "b" (aT j) "d"=L:=(xU ()).trans hd
 let b1:iT B "b" (aT j) "b"=aT j:=Wk _ _ _;generalize iT B "b" (aT j)=O at e7 d1 b1;let e8:lE "b1" (Q0 LR 8) O 8= .go (iT O "f" L) 9:=by
  show Xl O "f" (O "d") 8=_;rw[d1];exact XQ hL
 let d2:iT O "f" L "d"=L:=(xU ()).trans d1
 let b2:iT O "f" L "b"=aT j:=(xU ()).trans b1
 let f2:iT O "f" L "f"=L:=Wk _ _ _;generalize iT O "f" L=U at e8 d2 b2 f2;let e9:lE "b1" (Q0 LR 9) U 9= .go (iT U "g" L) 10:=by
  show Xl U "g" (U "f") 9=_;rw[f2];exact XQ hL
 let d3:iT U "g" L "d"=L:=(xU ()).trans d2
 let b3:iT U "g" L "b"=aT j:=(xU ()).trans b2
 let g3:iT U "g" L "g"=L:=Wk _ _ _;generalize iT U "g" L=B3 at e9 d3 b3 g3;let aa:lE "b1" (Q0 LR 10) B3 10= .go (iT B3 "h" L) 11:=by
  show Xl B3 "h" (B3 "g") 10=_;rw[g3];exact XQ hL
 rw[_,iT B3 "h" L,?_,(xU ()).trans b3,(xU ()).trans d3]
 rw[j8 () e7,j8 () e8,j8 () e9,j8 () aa,j8 () (show lE "b1" (Q0 LR 11) (iT B3 "h" L) 11= .go (iT B3 "h" L) 4 from rfl)]
abbrev gpL (r:Rn):Gp:=("b1",.non,[],u_ (LR,r),mC r)
def Op {B:Str->D}{p:Int}:(gpL (B,p,n,gs,thA z)).en=U_/\yV (gpL (B,p,n,gs,thA z))=u_ z:=[1:1]
section
variable {qs:#[23]}
def AdR {B:Str->D}{p:Int}{A:D}(i:Nat)(O:FP qs z=u_ (u_ A))(U:isT A=v_):itP qs (i+1) (gpL (B,p,n,gs,thA z))=itP qs i (gpL (lC LR "b1" (gs++ [-[-[-"thing",!z],A]]) (300-(n+1)) (iT B (b0 (Q0 LR p).2) A) (p+1) (n+1))):=by
 let e:Sy.step (SyP qs) (FP qs) (gpL (B,p,n,gs,thA z))=yS (gpL (B,p,n,gs,thA z)) A:=by
  rw[wT Op.1 Op.2,O]
  rfl
 let hn:xw A=false:=by
  cases A with
  |non=>exact A9 U ()|_=>rfl
 let e2:mX LR "b1" (B,p,n,gs,thA z) A=lC LR "b1" (gs++ [-[-[-"thing",!z],A]]) (300-(n+1)) (iT B (b0 (Q0 LR p).2) A) (p+1) (n+1):=by
  unfold mX;rw[hn,A4 uh]
  rfl
 show itP qs i (Sy.step (SyP qs) (FP qs) _)=_;rw[e];show itP qs i (gpL (mX LR "b1" (B,p,n,gs,thA z) A))=_;rw[e2]
def Ac0 {B:Str->D}{L:D}(hF:FP qs "c/d"=u_ (u_ L))(hL:isT L=v_)(hb:B "b"=aT (j+1))(hj:j<41)(hn:n<=291)(i:Nat):∃O U,itP qs (i+1) (gpL (lC LR "b1" gs (300-n) B 4 n))=itP qs i (gpL (lC LR "b1" U (300-(n+8)) O 4 (n+8)))/\O "b"=aT j/\O "d"=L:=by
 rw[show 300-n=(300-n-3)+3 by omega,Agy hb,AdR i hF hL]
 let hd:iT (iT B "c" cd) "d" L "d"=L:=Wk _ _ _;let aa:iT (iT B "c" cd) "d" L "b"=aT (j+1):=(xU ()).trans ((xU ()).trans hb)
 erw[Agx (gs:=gs++ [-[-[-"thing",-"c/d"],L]]) (f:=300-(n+8)) (n:=n+3) aa hd hL hj,O,e,h1,h2];rw[_,O,gs++ [-[-[-"thing",-"c/d"],L]],?_,h1,h2];let e0:b0 (Q0 LR 6).2="d":=rfl;rw[e0,show 300-(n+2+1)=300-(n+8)+5 by omega,show n+2+1=n+3 from rfl,show(6:Int)+1=7 from rfl,e]
def AdZ {L:D}(U:FP qs "c/d"=u_ (u_ L))(hL:isT L=v_):∀(j n:Nat) (B:Str->D) (gs:oj D),j<41->B "b"=aT j->n+8*j<=298->(j=0->B "d"=L)->(itP qs j (gpL (lC LR "b1" gs (300-n) B 4 n))).en=u_ (-[-"said",L])
 |0,n,B,gs,_,hb,hn,hd=>by
  let hd:=hd rfl;rw[show 300-n=(300-n-2)+2 by omega,j8 () ((AeG B).trans (A6 (by rw[hb];rfl))),Ex (e:=-[-"said",L]) () (show lE "b1" (Q0 LR 12) B 12=_ by rw[<-hd];rfl)]
  rfl
 |j+1,n,B,gs,hj,hb,hn,hd=>by
  obtain⟨B',O,e,h1,h2⟩:=Ac0 (gs:=gs) U hL hb () (show n<=291 by omega) j
  rw[e];exact AdZ U hL j (n+8) B' O () h1 () λ_=>h2
def AgK {L:D}(hF:FP qs "c/d"=u_ (u_ L))(hL:isT L=v_):∀(j n:Nat) (B:Str->D) (gs:oj D),j<41->B "b"=aT j->n%8=3->n<=299->299<=n+8*j->(itP qs j (gpL (lC LR "b1" gs (300-n) B 4 n))).en=u_ (flt "long"):=by
 intro j
 induction j with
 |zero=>
  intro n B gs hj O hm hn hl;let U:n=299:=by omega
  subst U;rw[show 300-299=0+1 from rfl,j8 () ((AeG B).trans (A6 (by rw[O];rfl)))]
  rfl
 |succ j ih=>
  intro n B gs hj O hm hn hl;by_cases c:n=299
  .subst c;rw[show 300-299=0+1 from rfl,j8 () ((AeG B).trans (A4 (by rw[O];show¬↑(VJ (j+1) cd)=0;rw[UP];omega)))]
   let e:(gpL (lC LR "b1" gs 0 B 5 (299+1))).en=u_ (flt "long"):=rfl;rw[show itP qs (j+1) (gpL (lC LR "b1" gs 0 B 5 (299+1)))=gpL (lC LR "b1" gs 0 B 5 (299+1)) from Sy.ZI (Y:=SyP qs) (by show(gpL (lC LR "b1" gs 0 B 5 (299+1))).en.isSome=v_;rw[e];rfl) (j+1)]
   exact e
  .obtain⟨B',aa,e,h1,h2⟩:=Ac0 (gs:=gs) hF hL O () (show n<=291 by omega) j
   rw[e];exact ih (n+8) B' aa () h1 () () ()
abbrev AbP (m c:Nat):D:=if m<=36 then .tup [-"value",lT c] else flt "long"
variable {c:Nat}
def NF {m:Nat}(hm:m<41)(ac:1<=m)(hc:c<7)(h1:qH qs "a"=-[-"leaf",aT m])(h2:qH qs "b1"=-[-"rule",y9 LR])(h3:qH qs "c/d"=-[-"leaf",lT c]):nW qs "b1"=AbP m c:=by
 let O:∀(z:Str) (x:D),qH qs z= .tup [-"leaf",x]->FP qs z=u_ (u_ x):=λz x h=>by
  let hg:g0D z (qH qs z)=none:=by rw[h];exact JF.mpr rfl
  exact(Sy.Kf (QK qs) hg).trans (by show u_ (Ai (qH qs z))=_;rw[h];rfl)
 let hF:=O _ _ h3;let aa:=O _ _ h1;let hg:g0D "b1" (qH qs "b1")=u_ (gpL (R0 LR "b1")):=by
  rw[h2];show(if("rule":Str)="leaf" then U_ else if("rule":Str)="made" then u_ (("b1",y9 LR,[],U_,U_):Gp) else u_ (nw ("b1",.non,[],U_,U_) (y9 LR)))=_
  rw[A4 (),A4 ()]
  unfold nw;rw[show xw (y9 LR)=Vt from rfl,A4 uh,Aeq.read]
  rfl
 let e0:R0 LR "b1"=(iT B0 "a" (-"a"),(2),(1),[],thA "a"):=by
  unfold R0;rw[j8 (f:=299) () (show lE "b1" (Q0 LR 1) B0 1= .go (iT B0 "a" (-"a")) 2 from(show Xl B0 "a" (-"a") 1=_ from XQ ())),Ex (f:=298) (e:=thA "a") () (show lE "b1" (Q0 LR 2) (iT B0 "a" (-"a")) 2= .stop (thA "a") from(show Out.stop (nV "ask" (iT B0 "a" (-"a") "a"))=_ by rw[Wk,Sr ()]))]
  rfl
 let e1:∀i,∃B gs,itP qs (i+1) (gpL (R0 LR "b1"))=itP qs i (gpL (lC LR "b1" gs (300-3) B 4 3))/\B "b"=aT m:=λi=>by
  rw[e0,AdR i aa (Ab3 m hm)];let eb:b0 (Q0 LR 2).2="b":=rfl;rw[eb];rw[_,iT (iT (iT B0 "a" (-"a")) "b" (aT m)) "e" (-"x"),[-[-[-"thing",-"a"],aT m]],?_,(xU ()).trans (Wk _ _ _)]
  rw[show 300-(1+1)=297+1 from rfl,show(2:Int)+1=3 from rfl,j8 (f:=297) () (show lE "b1" (Q0 LR 3) (iT (iT B0 "a" (-"a")) "b" (aT m)) 3= .go (iT (iT (iT B0 "a" (-"a")) "b" (aT m)) "e" (-"x")) 4 from(show Xl _ "e" (-"x") 3=_ from XQ ()))]
  rfl
 let fin:∀(k:Nat) (d:D),(itP qs k (gpL (R0 LR "b1"))).en=u_ d->nW qs "b1"=QR d:=λk d h=>by
  have:=IZ (qs:=qs) (f:=FP qs) hg (show Sy.it (SyP qs) (FP qs) k (gpL (R0 LR "b1"))=itP qs k (gpL (R0 LR "b1")) from rfl) (by rw[h];rfl)
  unfold nW;rw[hg];show QR ((Sy.it (SyP qs) (FP qs) 302 (gpL (R0 LR "b1"))).en.getD .non)=_;rw[this,h]
  rfl
 erw[e1 m,B,gs,eB,hB];unfold AbP;by_cases U:m<=36
 .rw[A6 U];rw[fin (m+1) (-[-"said",lT c]) (by rw[eB];exact AdZ hF (IQ c hc) m 3 B gs hm hB () (λz=>by omega))]
  unfold QR
  try dsimp only
  exact A6 rfl
 .rw[A4 U];rw[fin (m+1) (flt "long") (by rw[eB];exact AgK hF (IQ c hc) m 3 B gs hm hB () () ())]
  unfold QR flt
  try dsimp only
  exact A4 ()
end
abbrev PL (m c:Nat):#[23]:= [("a",-[-"leaf",aT m]),("b1",-[-"rule",y9 LR]),("c/d",-[-"leaf",lT c])]
def Aej:∀j:Nat,j<41->lw (aT j)=v_/\sz (aT j)<=300:=by rw[12]
def AbA:∀c:Nat,c<7->lw (lT c)=v_/\sz (lT c)<=300/\↑(Ox (c:Int))<=100:=by rw[12]
def Aer:lw (.tup (LL.map D.str))=v_/\sz (.tup (LL.map D.str))<=300:=by rw[12]
def AfN:∀z>LL,↑z<=100:=by rw[12]
def Cf {H:Hp}:∀{zs:oj Str},(∀z>zs,↑z<=100)->L2.IsL H (zs.map D.str) (zs.map V.str)
 | [],_=>rfl|z::r,h=>(_,0,QJ (by have:=h z uj;omega),Cf λy O=>h y (ui _ O))
variable {c:Nat}
def AfM {m:Nat}(hm:m<41)(O:c<7):Aem (PL m c):=by
 refine⟨⟨by show∀z>(["a","b1","c/d"]:oj Str),nm z=v_;rw[12],by show(["a","b1","c/d"]:oj Str).Nodup;rw[12]⟩,λp U=>?_⟩
 simp![PL,uH,uI,uU] at U;rcases U with rfl|rfl|rfl
 .exact wq (.inl rfl) (Ab3 m hm) (Aej m hm).1 (Aej m hm).2
 .exact wq (.inr rfl) Aeq.tree (by rw[AeK];exact Aer.1) (by rw[AeK];exact Aer.2)
 .exact wq (.inl rfl) (IQ c O) (AbA c O).1 (AbA c O).2.1
def Ad3 {m:Nat}(O:c<7):∃xs,AbP m c= .tup xs/\nL xs=v_/\dpL xs<=60:=by
 unfold AbP;by_cases h:m<=36
 .rw[A6 h];let h1:=Jy (IQ c O);let h2:=ko (Q3 (IQ c O));rw[0,?_,?_]
  .simp![nL,nD,h2,V1]
  .simp![dpL,dp];omega
 .rw[A4 h];exact⟨0,1,by simp[dpL,dp]⟩
def MR (k:Nat)(v:V):(VJ k [v]).flatten=VJ k v:=by
 induction k with
 |zero=>rfl|succ k O=>rw[vU,vU,UY,O];rfl
def OG {H:Hp}:∀k:Nat,L2.IsL H (VJ k cd) (VJ k (V.str "c/d"))
 |0=>rfl|k+1=>(_,0,QJ (),OG k)
inductive Tm:Sp
 |mk (c:Int)(_:vs= [.int c])(_:0<=c)(_:∀H',ie H H'->Q (.bl v_) H')
section
variable {P:o9}{w:og}{K:o0}{mg:Str->om o6}{base:o8}{a:Ad}{g:Ga}
def Aa5:#[C,17,a.j9,a.Jb,["cell"],Tm]:=by
 let Q5:=#[wu,T,C];let yj:=#[Ij,T];rw[9,T.lW,Qf]
 erw[h,c,rfl,aL,k];let hs:=uF;rw[3,%[#[qy,(1),Qf.nd,#[qV,yy,qj,#[qV,Y5,pv 0,qj]]],#[qy,(2),Qf.nd,#[QN,#v[qh,qh,qh,qh,qh,qh,qh]]],#[qy,(2),Qf.nd,#[qV,ZC,pv 2,#[QN,#v[qh,qh,qh,qh,qh]]]],#[qy,(3),Qf.nd,#[qE,#v[qh,#[qX,Yo,T.zB,V2,#v[#[qV,Y5,pv 0,qj]]]]]],#[qy,(4),Qf.nd,#[qE,#v[#[qE,#v[qh,#[qE,#v[qh,#[qV,AaM,#[qE,#v[qh]],pv 1]]]]],#[qE,#v[qh,#[qE,#v[qh,#[qX,Qd,T.QI,vx,#v[pv 2]]]]]],#[qE,#v[qh,#[qE,#v[qh,pv 3]]]]]]],#[qy,(5),Qf.nd,#[qE,#v[qh,pv 3]]],#[qK,#[qo,qax,pv 1,qj],%[|#[qy,(5),Qf.nd,#[qE,#v[qh,qh]]]],qu]|#[qp,#[yQ,#[E1,1,hr.units],#[qr,Q5,#[20],T.iO,Dw,#v[#[Jq,T.zg,yj,#[20],T.zn,T.iD,qG,#v[pv 4]],qh]],pv 5,qx _]]]]
 rw[8,N1,q1]
 rw[0,_,0,1,(by show(0:Int)<11;decide),_,0,1,q1 _ _ ?_]
 obtain⟨m,hm⟩:∃m:Nat,(30:Int)+c%11=(m:Int):=[(30+c%11).toNat:()]
 let ae:m<41:=by omega
 let aM:30<=m:=by omega
 rw[hm];rw[8,N2,q2]
 rw[_,sml rfl,λl1 h1=>q2 _ _ ?_];let s1:=qf h1 (.lst ((LL.take 7).map V.str));let e1:upd H l1 (.lst ((LL.take 7).map V.str)) l1=u_ (.lst ((LL.take 7).map V.str)):=qg;show cl _ _ _ _ _ (upd H l1 (.lst ((LL.take 7).map V.str)));generalize upd H l1 (.lst ((LL.take 7).map V.str))=H1 at s1 e1⊢;rw[8,N3,q3]
 rw[0,sml rfl,λl2 h2=>?_];let s2:=qf h2 (.lst ((LL.drop 7).map V.str))
 rw[5]
 refine(l1,l2,(LL.take 7).map V.str,(LL.drop 7).map V.str,1,1,s2 _ _ e1,qg,by show 7+5<=Vw;omega,λl3 h3=>q3 _ _ ?_)
 let s3:=qf h3 (.lst ((LL.take 7).map V.str++(LL.drop 7).map V.str));let e3:upd (upd H1 l2 (.lst ((LL.drop 7).map V.str))) l3 (.lst ((LL.take 7).map V.str++(LL.drop 7).map V.str)) l3=u_ (.lst (LL.map V.str)):=by rw[qg];rfl
 let af:ie H1 (upd (upd H1 l2 (.lst ((LL.drop 7).map V.str))) l3 (.lst ((LL.take 7).map V.str++(LL.drop 7).map V.str))):=s2.trans s3;show cl _ _ _ _ _ (upd (upd H1 l2 (.lst ((LL.drop 7).map V.str))) l3 (.lst ((LL.take 7).map V.str++(LL.drop 7).map V.str)));generalize upd (upd H1 l2 (.lst ((LL.drop 7).map V.str))) l3 (.lst ((LL.take 7).map V.str++(LL.drop 7).map V.str))=H3 at af e3⊢;let aF:=s1.trans af;rw[8,N4,q4];obtain⟨d,hd⟩:∃d:Nat,c%7=(d:Int):=[(c%7).toNat:()]
 let O:d<7:=by omega
 rw[0,_,0,1,(by show(0:Int)<7;decide),0]
 rw[_,UI (Vc _) (),sml rfl,λt1 ag=>q4 _ _ ?_]
 rw[hd];let l7:=(AbA d O).2.2;let m1:=qf ag (-[V.str "v",V.str (Ox (d:Int))]);let i1:Is (upd H3 t1 (-[V.str "v",V.str (Ox (d:Int))])) (lT d) (-t1):=Is.new (ds:= [-"v",.str (Ox (d:Int))]) (_,0,QJ (),_,0,QJ (),1) ag
 let e4:=m1 _ _ e3;let ah:=aF.trans m1;show cl _ _ _ _ _ (upd H3 t1 (-[V.str "v",V.str (Ox (d:Int))]));generalize upd H3 t1 (-[V.str "v",V.str (Ox (d:Int))])=H4 at i1 e4 ah⊢;rw[8,N5,q5]
 rw[_,sml rfl,λt2 aG=>?_];let m2:=qf aG (-[V.str "c/d"])
 rw[5]
 refine(0,t2,(m:Int),[V.str "c/d"],1,1,SqT.of qg,by simp,(),(),by show 1*(m:Int).toNat<=Vw;omega,λz=>by omega,λ_ t3 ak=>?_)
 let ev:(VJ (m:Int).toNat [V.str "c/d"]).flatten=VJ m (V.str "c/d"):=MR m _;rw[ev];let m3:=m2.trans (qf ak (.tup (VJ m (V.str "c/d"))));let i3:Is (upd (upd H4 t2 (-[V.str "c/d"])) t3 (.tup (VJ m (V.str "c/d")))) (aT m) (-t3):=Is.new (ds:=VJ m cd) (OG m) ak;generalize upd (upd H4 t2 (-[V.str "c/d"])) t3 (.tup (VJ m (V.str "c/d")))=H5 at m3 i3⊢
 rw[_,sml rfl,λt4 al=>?_];let m4:=m3.trans (qf al (-[V.str "leaf",V.ref t3]));let i4:=Is.new (ds:= [-"leaf",aT m]) (_,0,QJ (),_,0,i3,1) al
 generalize upd H5 t4 (-[V.str "leaf",V.ref t3])=H6 at m4 i4⊢
 rw[_,sml rfl,λU am=>?_];let m5:=m4.trans (qf am (-[V.str "a",V.ref t4]));let i5:=Is.new (ds:= [-"a",-[-"leaf",aT m]]) (_,0,QJ (),_,0,i4,1) am
 generalize upd H6 U (-[V.str "a",V.ref t4])=H7 at m5 i5⊢
 rw[0,l3,0,.inl [SqL.of (m5 _ _ e4):λt6 ao=>?_]];let n6:=qf ao (.tup (LL.map V.str));let i6:Is (upd H7 t6 (.tup (LL.map V.str))) (y9 LR) (-t6):=by rw[AeK];exact Is.new (ds:=LL.map D.str) (Cf AfN) ao
 generalize upd H7 t6 (.tup (LL.map V.str))=H8 at n6 i6⊢
 rw[_,sml rfl,λt7 ap=>?_];let n7:=n6.trans (qf ap (-[V.str "rule",V.ref t6]));let i7:=Is.new (ds:= [-"rule",y9 LR]) (_,0,QJ (),_,0,i6,1) ap
 generalize upd H8 t7 (-[V.str "rule",V.ref t6])=H9 at n7 i7⊢
 rw[_,sml rfl,λt8 aq=>?_];let n8:=n7.trans (qf aq (-[V.str "b1",V.ref t7]));let i8:=Is.new (ds:= [-"b1",-[-"rule",y9 LR]]) (_,0,QJ (),_,0,i7,1) aq
 generalize upd H9 t8 (-[V.str "b1",V.ref t7])=HA at n8 i8⊢
 rw[0,sml rfl,λt9 au=>?_];let n9:=qf au (-[V.str "leaf",V.ref t1]);let i9:=Is.new (ds:= [-"leaf",lT d]) (_,0,QJ (),_,0,i1.mono (m5.trans n8).tk,1) au
 generalize upd HA t9 (-[V.str "leaf",V.ref t1])=HB at n9 i9⊢
 rw[_,sml rfl,λtA aw=>?_];let nA:=n9.trans (qf aw (-[V.str "c/d",V.ref t9]));let iA:=Is.new (ds:= [-"c/d",-[-"leaf",lT d]]) (_,0,QJ (),_,0,i9,1) aw
 generalize upd HB tA (-[V.str "c/d",V.ref t9])=HC at nA iA⊢
 rw[_,sml rfl,λtB aH=>q5 _ _ ?_];let nB:=qf aH (-[V.ref U,V.ref t8,V.ref tA]);let eB:upd HC tB (-[V.ref U,V.ref t8,V.ref tA]) tB=u_ (-[V.ref U,V.ref t8,V.ref tA]):=qg;let aa:=n8.trans (nA.trans nB);let aI:=nA.trans nB;let ax:L2.IsL (upd HC tB (-[V.ref U,V.ref t8,V.ref tA])) ((PL m d).map prD) [V.ref U,V.ref t8,V.ref tA]:=(_,0,i5.mono aa.tk,_,0,i8.mono aI.tk,_,0,iA.mono nB.tk,1);let iL:Is (upd HC tB (-[V.ref U,V.ref t8,V.ref tA])) (lT d) (-t1):=i1.mono (m5.trans aa).tk;let sC:=ah.trans (m5.trans aa);show cl _ _ _ _ _ (upd HC tB (-[V.ref U,V.ref t8,V.ref tA]));generalize upd HC tB (-[V.ref U,V.ref t8,V.ref tA])=HD at eB ax iL sC⊢;rw[8,N6,q6]
 rw[0,sml rfl,λtC ay=>q6 _ _ ?_];let nC:=qf ay (-[V.str "value",V.ref t1]);let iC:Is (upd HD tC (-[V.str "value",V.ref t1])) (-[-"value",lT d]) (-tC):=Is.new (ds:= [-"value",lT d]) (_,0,QJ (),_,0,iL,1) ay
 show cl _ _ _ _ _ (upd HD tC (-[V.str "value",V.ref t1]));generalize upd HD tC (-[V.str "value",V.ref t1])=HE at nC iC⊢;rw[8,N7,q7];let aA:∀(dv:V) (HF:Hp),ie HD HF->Is HF (AbP m d) dv->N7 [u_ (.int c),u_ (.int (m:Int)),u_ (-l3),u_ (-t1),u_ (-tB),u_ dv] HF:=by
  intro dv HF sF iF;refine q7 _ _ ?_
  rw[0,λx dx nx aJ aN=>?_];let mx:ie HF (upd (upd HF dx (.own x)) x (.ins a.qI dx [])):=λb ob e=>by
   rwa[qk (qi e nx),qk (qi e aJ)]
  let sx:=sF.trans mx
  rw[5]
  refine(x,dx,tB,PL m d,0,qg,sx _ _ eB,ax.mono sx.tk,AfM ae O,by show 3<=60;decide,λqs HG keep hP hT ac=>[1:?_])
  let sG:ie HF HG:=λb ob e=>keep b ob (mx _ _ e) (qi e nx)
  rw[_,x,"b1",qs,1,(),hP,hT,λ_ v HI sI iI=>?_,λz=>A9 z ()]
  let dt:∀p>PL m d,qH qs p.1=p.2:=λp hp=>AK hT.1.1.2 (ac.mem_iff.mpr hp);rw[NF ae () O (dt ("a",-[-"leaf",aT m]) uj) (dt ("b1",-[-"rule",y9 LR]) (ui _ uj)) (dt ("c/d",-[-"leaf",lT d]) (ui _ (ui _ uj)))] at iI
  erw[Ad3 (m:=m) O,xs,ex,ad,aK];let aB:=(iF.mono sG.tk).mono sI.tk;rw[ex] at iI aB
  rw[0,xs,xs,iI,aB,ad,ad,aK];rw[(qaF ad).mpr rfl];exact k _ (((sC.trans sF).trans sG).trans sI)
 rw[0,_,0,1,0,lz (λaC=>?_) (λaD=>?_)]
 .let aC:GT.gt (m:Int) 36:=uq aC
  rw[_,sml rfl,λtD aE=>?_];let nD:=qf aE (-[V.str "fault",V.str "long"]);refine aA _ _ (nC.trans nD) ?_;unfold AbP;rw[A4 ()]
  exact Is.new (ds:= [-"fault",-"long"]) (_,0,QJ (),_,0,QJ (),1) aE
 .let aD:¬GT.gt (m:Int) 36:=λz=>aD (ua z);refine aA _ _ nC ?_;unfold AbP;rw[A6 ()]
  exact iC
abbrev hdD (x:Str×oj D×V):Str×D:=(x.1,x.2.1.headD .non)
def Af1 {H:Hp}:∀{ps:#[23]}{us:oj V},L2.IsL H (ps.map prD) us->∃ds:oj (Str×oj D×V),ds.map (·.2.2)=us/\ds.map hdD=ps/\∀x>ds,x.2.1= [(hdD x).2]/\Is H (prD (hdD x)) x.2.2
 | [],us,h=>([],(show us= [] from h).symm,1,λx O=>by simp at O)|p::r,us,h=>by
  erw[h,v,q,rfl,h1,h2];erw[Af1 h2,ds,U,e2,e3];refine((p.1,[p.2],v)::ds,by rw[ur,U],by rw[ur,e2];rfl,λx O=>?_)
  rcases Ab.mp O with rfl|O
  .exact[1:h1]
  .exact e3 x O
def D6 {H:Hp}:∀{es:oj (Str×oj D×V)},(∀x>es,Is H (prD (hdD x)) x.2.2)->L2.IsL H ((es.map hdD).map prD) (es.map (·.2.2))
 | [],_=>rfl|x::r,h=>(_,0,h x uj,D6 λy O=>h y (ui _ O))
def SK {ds:oj (Str×oj D×V)}(hok:Aem ps)(e:ds.map hdD=ps)(h:∀x>ds,x.2.1= [(hdD x).2]/\Is H (prD (hdD x)) x.2.2):Dd H ds:=by
 rw[_,λx O=>?_,?_]
 .rw[(h x O).1];exact(h x O).2
 .have:ds.map (·.1)=#[17]:=by rw[<-e,uR];rfl
  rw[this];exact hok.1.2
def CH:∀a b:oj Nat,VR a b=decide (a<b)
 | [],[]=>rfl| [],_::_=>by simp[VR]|_::_,[]=>by simp[VR]|x::a,y::b=>by
  rw[VR,CH a b];simp![TX];rw[vF];simp
def SL {rs:#[23]}(nd:(#[15]).Nodup)(h:qs.Perm rs)(h1:qs.Pairwise λa b=>VR b.1.cps.toList a.1.cps.toList=Vt)(h2:rs.Pairwise λa b=>VR b.1.cps.toList a.1.cps.toList=Vt):qs=rs:=
 rD (λa b ha U x y=>by
  let e:a.1=b.1:=Bh (BL _ _ y x);let O:=AK nd (z:=a.1) (d:=a.2) ha;let e2:=AK nd (z:=b.1) (d:=b.2) (h.mem_iff.mpr U);rw[e,e2] at O;exact Rs e O.symm) h1 h2 h
def Xu {zs:oj Str}:∀{ws:oj V},(∀y>ws,y>zs.map V.str)->∃U:oj Str,ws=U.map V.str/\∀z>U,z>zs
 | [],_=>⟨[],1,λz hz=>by rw[hz,0]⟩|y::r,h=>by
  obtain⟨U,rfl,h2⟩:=Xu (ws:=r) λx O=>h x (ui _ O);erw[Af.mp (h y uj),z,hz,rfl];rw[_,z::U,1,λx O=>?_];rcases Ab.mp O with rfl|O
  .exact hz
  .exact h2 x O
variable {xs:oj V}{y:V}
def qay {lo hi:om Int}(h:y>l6 xs lo hi):y>xs:=by
 unfold l6 at h;exact FE (V7 h)
mutual
theorem Agb:∀{d:D},puD d=v_->nD d=v_
 | .str _,_=>rfl| .int _,_=>rfl| .tup xs,h=>by
  simp![puD] at h;simp![nD];exact puL_n h
theorem puL_n:∀{xs:oj D},puL xs=v_->nL xs=v_
 | [],_=>rfl|x::r,h=>by
  simp![puL,uB] at h;simp![nL,Agb h.1,puL_n h.2,V1]
end
def Adb (h:yb qs):nL (qs.map prD)=v_/\dpL (qs.map prD)<=60:=by
 obtain⟨h1,h2⟩:=Ade (λp O=>h.1.1.1 p.1 (Af.mpr [p:O:1])) h.1.2;let e:dp (.tup (qs.map prD))=1+dpL (qs.map prD):=by simp![dp]
 let h3:=Agb (AdG h1);exact⟨by simpa only [nD] using h3,()⟩
abbrev NX:oj Str:= ["a","b1","c/d","e.f","g","h9","k","m/n","x","zz"]
def nx_ok:∀z>NX,nm z=v_/\↑z<=4:=by rw[12]
abbrev ODD:oj Str:= ["","A","9a","a b",rA "a" 25,"/a","a_","a\n"]
def Ady:∀z>ODD,nm z=Vt/\↑z<=100:=by rw[12]
variable {v:V}
def Abq:G7 ("sources":Str) [(("by_name":Str),v)]=none:=by rfl
inductive OA (K:PySem.W.Frag):Sp
 |mk (q:Addr)(ns:List Int)(_:vs= [-q])(_:SqL K H q (ns.map V.int))(_:↑ns<=63)(_:∀H',Q (.bl v_) H')
def Adu:#[C,20,a.f_law,a.d_law,["script"],(OA K)]:=by
 let yL:=#[Im,T];let Z8:=#[Aa5,T,C];let bo:=#[Nf,T];let yj:=#[Ij,T];let Zg:=#[Dz,T];let WT:=#[Ia,T,C];let Zl:=#[Np,T];let Q5:=#[wu,T,C];let Zn:=#[OT,T,C];let Z1:=#[Aa9,T];let bp:=#[DA,T,C];refine T.CW.F.ok YW () (λ_ _ _ _ H vs Q E O h=>?_)
 erw[h,q,ns,rfl,hq,cf,k];let hs:=uF;rw[3,%[#[qK,#[Qv,#[Qh,#[qr,Z8,O.mono (),T.lW,qG,#v[#[qV,Y5,#[qr,yL,O.mono (),T.iK,qG,#v[pv 0,qj]],#[qV,OR,qj,qj]]]]]],%[|#[qp,jC]],qu],#[qy,(1),YW.nd,#[qr,bo,O.mono (),T.mF,qG,#v[pv 0]]],#[qy,(2),YW.nd,#[qX,#[kE,1,rfl],T.z_dict,Fb,#v[pv 1]]],#[qy,(3),YW.nd,#[Jq,T.zg,yj,O.mono (),T.zn,T.iD,qG,#v[#[qX,Qd,T.QI,vx,#v[pv 1]]]]],#[qy,(4),YW.nd,#[qL,qJ,#[qr,WT,O.mono (),T.ml,qG,#v[pv 2]],qj]],#[qy,(5),YW.nd,#[QN,#v[qh,qh,qh,qh,qh,qh,qh,qh,qh,qh]]],#[qK,#[qo,qax,#[qw,qN,T.yt,uK,#v[pv 1]],qj],%[|#[qy,(5),YW.nd,#[qr,Zl,O.mono (),T.lL,qG,#v[pv 0,qj,qj]]]],qu],#[qy,(6),YW.nd,#[qV,Y5,#[qr,yL,O.mono (),T.iK,qG,#v[pv 0,qj]],qj]],#[qy,(5),YW.nd,#[qV,ZC,#[Y7,zS,pv 5,#[jZ,pv 6],J2],#[Y7,zS,pv 5,J2,#[jZ,pv 6]]]],#[YH,#[Zy,#[qV,ZC,pv 5,#[Y7,zS,pv 5,J2,#[jZ,qj]]]],#[qW,(7),YW.nd],%[|#[qK,#[qo,#[AaO,1,O.units],#[qr,Q5,O.mono (),T.iO,Dw,#v[pv 3,pv 7]],#[qr,Z1,O.mono (),T.mf,qG,#v[pv 2,pv 4,pv 7]]],%[|#[qp,jC]],qu]]],#[YH,#[Zy,#[Y7,zS,pv 5,J2,#[jZ,qj]]],#[qW,(7),YW.nd],%[#[qy,(8),YW.nd,#[qr,Z1,O.mono (),T.mf,qG,#v[pv 2,pv 4,pv 7]]],#[qy,(9),YW.nd,#[qr,Zn,O.mono (),T.mJ,Dw,#v[pv 3,pv 7]]]|@qK _ _ _ _ _ _ _ _ (@wb _ _ _ _ _ _ _ #[zq,#[qo,Qn,#[qL,qJ,pv 8,qj],qh],#[J0,#[qo,#[Ado,1,O.units],pv 9,#[qL,qJ,pv 8,qj]]]].pt (@xY _ _ _ _ #[zq,#[qo,M3,#[qL,qJ,pv 8,qj],qh],#[J0,#[qo,KN,pv 9,qY]]].pt)).pt %[|#[qp,jC]] qu]],#[qy,(10),YW.nd,#[QN,#v[qh,qh,qh,qh,#[qV,AaL,qh,qj],qh,qh,qh]]],#[YH,#[YJ,#v[qj]],#[qW,(11),YW.nd],%[|#[qK,#[Qv,#[Qh,#[qr,bp,O.mono (),T.mG,qG,#v[pv 3,pv 11,#[qL,yu,pv 10,#[qV,Y5,#[qr,yL,O.mono (),T.iK,qG,#v[pv 0,qj]],#[qw,qN,T.yt,uK,#v[pv 10]]]]]]]],%[|#[qp,jC]],qu]]]|#[qp,#[pe_and,#[yQ,#[E1,1,O.units],#[qr,Q5,O.mono (),T.iO,Dw,#v[#[Jq,T.zg,yj,O.mono (),T.zn,T.iD,qG,#v[#[qE,qd]]],qh]],#[qE,#v[qh]],qx _],#[kK,#[yQ,#[E1,1,O.units],#[QC,17,#[Jq,T.zg,yj,O.mono (),T.zn,T.iD,qG,#v[#[qX,Qd,T.QI,vx,#v[pv 1]]]],T.yR,T.iS.h,Zg,O.mono (),T.iS.b,.nil,qG,_],#[qX,Qd,T.QI,vx,#v[#[qw,#[AQ,1,O.units],T.qaz,rf,#v[pv 1]]]],qx _]]]]]]
 rw[8,N1,q1]
 rw[0,q,ns,(3),1,(),hq,λc0=>?_]
 rw[_,_,0,1,[():():()],_,0,1,(by show(0:Int)<10^(9:Int).toNat;decide),c0%10^(9:Int).toNat,1,Ud _ (),λH0 s0=>[0:iX (q1 _ _ ?_)]]
 let hq:=Dl hq s0;rw[8,N2,q2]
 rw[0,q,ns,1,hq,λL ps us H1 s1 hL aJ hok bq aK=>q2 _ _ ?_];rw[8,N3,q3];erw[Ct aJ,ts,vs,bu,e1,e2,e3,e4];let cg:↑vs=↑ps:=by
  have:=Aa Gi e3
  rwa[uc,uc] at this
 rw[0,L,vs,1,(ts,by rw[hL,bu],e1,e2),(by rw[e3];exact hok.1.2),(),λd o hd=>q3 _ _ ?_]
 let s2:=qf hd (.frz o (.dK (iy vs)));let au:Ba (upd H1 d (.frz o (.dK (iy vs)))) d o ps:=(vs,qg,e3,e4.mono s2.tk);let aw:=s2 _ _ hL;let ac:=aJ.mono s2.tk;generalize upd H1 d (.frz o (.dK (iy vs)))=H2 at s2 au aw ac⊢;rw[8,N4,q4]
 rw[0,L,us,1,.inl [SqL.of aw:λt ht=>?_]];let m1:=qf ht (¬us);intro x dx nx bv ch;let m2:ie (upd H2 t (¬us)) (upd (upd (upd H2 t (¬us)) dx (.own x)) x (.ins a.qI dx [])):=λb ob e=>by
  rwa[qk (qi e nx),qk (qi e bv)]
 let aL:=m1.trans m2
 rw[_,x,dx,t,ps,us,1,qg,m2 _ _ qg,ac.mono aL.tk,hok,aK,λqs H3 keep hP hT ax=>[1:q4 _ _ ?_]];let s3:ie H2 H3:=λb ob e=>keep b ob (aL _ _ e) (qi (m1 _ _ e) nx);let ay:PQ ps qs:=(ax,hT,hok.1.2,λp hp=>(bq p hp).1);rw[8,N5,q5]
 rw[0,d,o,ps,qs,1,au.same s3,ay,λt4 vd rd rr H4 s4 bw bx aM=>?_]
 rw[_,t4,_,_,0,1,SqT.of bw,1,q5 _ _ ?_];rw[8,N6,q6]
 rw[_,sml rfl,λl5 h5=>q6 _ _ ?_];let s5:=qf h5 (.lst (NX.map V.str));let e5:upd H4 l5 (.lst (NX.map V.str)) l5=u_ (.lst (NX.map V.str)):=qg;show cl _ _ _ _ _ (upd H4 l5 (.lst (NX.map V.str)));generalize upd H4 l5 (.lst (NX.map V.str))=H5 at s5 e5⊢;let af:=(s3.trans s4).trans s5;let bA:=s2.trans af;let aA:=Dl hq (s1.trans bA);rw[8,N7,q7];let aq:=bx.same s5;let aB:=(hP.same s4).same s5;let aN:=au.same af;let aO:=af _ _ aw;let aP:=ac.mono af.tk;let aQ:∀(l:o3) (zs:oj Str) (H6:Hp),ie H5 H6->H6 l=u_ (.lst (zs.map V.str))->(∀z>zs,nm z=v_/\↑z<=4)->↑zs<=100->N7 [u_ (-q),u_ (-L),u_ (-d),u_ (-x),u_ (-rd),u_ (-l),U_,U_,U_,U_,U_,U_] H6:=by
  intro l zs H6 s6 hl ag ci;refine q7 _ _ ?_;rw[8,N8,q8]
  rw[0,q,ns,(2),1,(),Dl aA s6,λc2=>(_,0,1,(by show(0:Int)<10;decide),q8 _ _ ?_)]
  rw[8,N9,q9]
  rw[0,0,0,l,0,SqL.of hl,λp1 aC=>?_];let n1:=qf aC (.lst (l6 (zs.map V.str) (u_ (c2%10)) U_))
  rw[0,0,0,l,0,SqL.of (n1 _ _ hl),λp2 bB=>?_];let n2:=qf bB (.lst (l6 (zs.map V.str) U_ (u_ (c2%10))));let c1:=YI (zs.map V.str) (u_ (c2%10)) U_;let c3:=YI (zs.map V.str) U_ (u_ (c2%10));rw[uc] at c1 c3
  rw[_,p1,p2,_,0,1,n2 _ _ qg,qg,(),λp3 bC=>q9 _ _ ?_]
  obtain⟨U,aR,aS⟩:=Xu (zs:=zs) (ws:=l6 (zs.map V.str) (u_ (c2%10)) U_++l6 (zs.map V.str) U_ (u_ (c2%10))) λy hy=>by
   rcases Ae.mp hy with h|h
   .exact qay h
   .exact qay h
  let cj:↑U<=200:=by
   have:=Aa Gi aR;rw[uE,uc] at this;omega
  let n3:=qf bC (.lst (l6 (zs.map V.str) (u_ (c2%10)) U_++l6 (zs.map V.str) U_ (u_ (c2%10))));let s7:=(n1.trans n2).trans n3;let e7:upd (upd (upd H6 p1 (.lst (l6 (zs.map V.str) (u_ (c2%10)) U_))) p2 (.lst (l6 (zs.map V.str) U_ (u_ (c2%10))))) p3 (.lst (l6 (zs.map V.str) (u_ (c2%10)) U_++l6 (zs.map V.str) U_ (u_ (c2%10)))) p3=u_ (.lst (U.map V.str)):=by rw[qg,aR]
  generalize upd (upd (upd H6 p1 (.lst (l6 (zs.map V.str) (u_ (c2%10)) U_))) p2 (.lst (l6 (zs.map V.str) U_ (u_ (c2%10))))) p3 (.lst (l6 (zs.map V.str) (u_ (c2%10)) U_++l6 (zs.map V.str) U_ (u_ (c2%10))))=H7 at s7 e7⊢;let bD:=s6.trans s7;rw[8,NA,qA]
  rw[0,0,0,p3,0,SqL.of e7,λp4 bE=>?_];let n4:=qf bE (.lst (l6 (U.map V.str) U_ (u_ 1)));let c4:=YI (U.map V.str) U_ (u_ 1);rw[uc] at c4
  rw[5]
  refine(p3,p4,_,0,1,n4 _ _ e7,qg,by rw[uc];omega,λp5 bF=>?_)
  obtain⟨os,bG,bH⟩:=Xu (zs:=U) (ws:=U.map V.str++l6 (U.map V.str) U_ (u_ 1)) λy hy=>by
   rcases Ae.mp hy with h|h
   .exact h
   .exact qay h
  let n5:=n4.trans (qf bF (.lst (U.map V.str++l6 (U.map V.str) U_ (u_ 1))));let e8:upd (upd H7 p4 (.lst (l6 (U.map V.str) U_ (u_ 1)))) p5 (.lst (U.map V.str++l6 (U.map V.str) U_ (u_ 1))) p5=u_ (.lst (os.map V.str)):=by rw[qg,bG]
  generalize upd (upd H7 p4 (.lst (l6 (U.map V.str) U_ (u_ 1)))) p5 (.lst (U.map V.str++l6 (U.map V.str) U_ (u_ 1)))=H8 at n5 e8⊢;let aU:=bD.trans n5
  rw[_,p5,1,[_:SqL.of e8]]
  refine_lift let J_:Nat->L2.St->Hp->Prop:=λi σ H'=>(∃u7,σ= [u_ (-q),u_ (-L),u_ (-d),u_ (-x),u_ (-rd),u_ (-p3),u_ (.int (c2%10)),u7,U_,U_,U_,U_])/\ie H8 H';?_
  refine zy (xs:=os.map V.str) J_ [⟨0⟩:ie.refl _] (λi σ H' _ h=>SqL.of (h.2 _ _ e8)) ?_ ?_
  .rintro i y σ Ha hy ⟨⟨u7,rfl⟩,sa⟩;erw[Af.mp (uL hy),z,hz,rfl];erw[ag z (aS z (bH z hz)),ad,aV];let aa:=aU.trans sa;erw[L6 hT z,kk,r,ea,bI,aW,bJ,_]
   rw[0,0,x,z,qs,1,(),aB.same aa,hT,λ_ v Hb sb ib=>?_,λh=>A9 h (by rw[ad];exact Pb)]
   let ah:=aa.trans sb
   rw[0,0,0,d,rd,o,z,ps,qs,rr,1,aN.same ah,ay,aq.same ah,aM,λv2 Hc sc ic=>?_];let ib:=ib.mono sc.tk;rw[ea] at ib ic;let nl:nL (.str kk::r)=true:=by simp![nL,nD,aW,V1]
   rw[_,_,_,ib,ic,nl,nl,(by simp![dpL,dp];omega)]
   rw[(qaF nl).mpr rfl];exact[0:iX [⟨0⟩:(sa.trans sb).trans sc]]
  rintro σ H9 ⟨⟨u7,rfl⟩,aX⟩;refine qA _ _ ?_;let bK:=aU.trans aX;let e9:=aX _ _ (n5 _ _ e7);rw[8,NB,qB]
  rw[0,0,p3,0,SqL.of e9,λp6 bL=>?_];obtain⟨fs,bM,bN⟩:=Xu (zs:=U) (ws:=l6 (U.map V.str) U_ (u_ 3)) λy hy=>qay hy;let n6:=qf bL (.lst (l6 (U.map V.str) U_ (u_ 3)));let eA:upd H9 p6 (.lst (l6 (U.map V.str) U_ (u_ 3))) p6=u_ (.lst (fs.map V.str)):=by rw[qg,bM]
  generalize upd H9 p6 (.lst (l6 (U.map V.str) U_ (u_ 3)))=HA at n6 eA⊢;let aY:=bK.trans n6
  rw[_,p6,1,[_:SqL.of eA]]
  refine_lift let J2_:Nat->L2.St->Hp->Prop:=λi σ H'=>(∃u7 u8 u9,σ= [u_ (-q),u_ (-L),u_ (-d),u_ (-x),u_ (-rd),u_ (-p3),u_ (.int (c2%10)),u7,u8,u9,U_,U_])/\ie HA H';?_
  refine zy (xs:=fs.map V.str) J2_ [[_:_:0]:ie.refl _] (λi σ H' _ h=>SqL.of (h.2 _ _ eA)) ?_ ?_
  .rintro i y σ Ha hy ⟨⟨u7,u8,u9,rfl⟩,sa⟩;erw[Af.mp (uL hy),z,hz,rfl];erw[ag z (aS z (bN z hz)),ad,aV];let aa:=aY.trans sa;erw[L6 hT z,kk,r,ea,bI,aW,bJ,bO];show nP _ _ _ _ Ha;rw[8,B1,b1]
   rw[0,0,0,d,rd,o,z,ps,qs,rr,1,aN.same aa,ay,aq.same aa,aM,λv2 Hb sb ib=>b1 _ _ ?_];let ah:=aa.trans sb;rw[8,B2,b2]
   rw[0,0,x,z,qs,1,(),aB.same ah,hT,λ_ v Hc sc ic=>b2 _ _ ?_,λh=>A9 h (by rw[ad];exact Pb)]
   let ib:=ib.mono sc.tk;rw[ea] at ib ic;erw[ib,td,ud,rfl,ak,w1,r1,rfl,[rfl,_],aZ]
   rw[0,td,_,_,0,1,SqT.of ak,Qk (j:=0) rfl,1,0];by_cases ck:kk="value"
   .refine lD (ua (by rw[ck])) ?_
    erw[bO ck,xx,rfl,al];erw[aZ,w2,r2,rfl,ix,cm];let ic:Is Hc (if kk="value" then xx else .non) v:=ic
    rw[A6 ck] at ic;let ca:=Jy al
    rw[0,0,td,_,_,0,1,SqT.of ak,Qk (j:=1) rfl,xx,xx,ic,ix,Aw al,Aw al,()]
    rw[(AbO (Acw (Aw al))).mpr rfl]
    rw[0,iU rfl ?_]
    rw[0,td,_,_,0,1,SqT.of ak,Qk (j:=0) rfl,1,0];refine iU (by simp[ck]) ?_
    exact iU rfl [[_:_:0]:(sa.trans sb).trans sc]
   .refine iU (ub (λz=>ck (V.str.inj z))) (iU rfl ?_);rw[D0 ck] at ic;rw[show v= .non from ic,0]
    rw[0,td,_,_,0,1,SqT.of ak,Qk (j:=0) rfl,1,0];refine lD (by simpa using ck) ?_
    rw[0,1,0];exact iU (by simp) [[_:_:0]:(sa.trans sb).trans sc]
  rintro σ HB ⟨⟨u7,u8,u9,rfl⟩,bP⟩;refine qB _ _ ?_;let bQ:=aY.trans bP;rw[8,NC,qC];let bR:MulOk "a" 25:=by unfold MulOk;rw[12]
  rw[_,_,0,1,bR,sml rfl,λl9 h9=>qC _ _ ?_];let n9:=qf h9 (.lst (ODD.map V.str));let a1:upd HB l9 (.lst (ODD.map V.str)) l9=u_ (.lst (ODD.map V.str)):=qg;show cl _ _ _ _ _ (upd HB l9 (.lst (ODD.map V.str)));generalize upd HB l9 (.lst (ODD.map V.str))=HC at n9 a1⊢;let a2:=bQ.trans n9;rw[8,ND,qD]
  rw[_,(5),1,(),()]
  refine_lift let J3_:Nat->L2.St->Hp->Prop:=λi σ H'=>(∃aD,σ= [u_ (-q),u_ (-L),u_ (-d),u_ (-x),u_ (-rd),u_ (-p3),u_ (.int (c2%10)),u7,u8,u9,u_ (-l9),aD])/\ie HC H';?_
  refine W1 (n:=5) J3_ [⟨0⟩:ie.refl _] ?_ ?_
  .rintro i σ Ha hi ⟨⟨aD,rfl⟩,sa⟩;let aa:=a2.trans sa;let ea:=sa _ _ a1
   rw[0,0,0,0,q,ns,(1),1,(),Dl aA aa,λc1=>?_]
   rw[0,l9,0,.inl (SqL.of ea),_,0,1,(by show(0:Int)<8;decide)]
   erw[YD (xs:=ODD.map V.str) (i:=c1%8) (Ud _ ()) (U5 _ ()),x1,a3]
   erw[Af.mp (jY a3),z,hz,rfl];erw[Ady z hz,ad,aV]
   rw[5]
   refine(l9,_,_,0,1,SqL.of ea,a3,x,_,z,qs,1,(),aB.same aa,hT,ad,λHb sb=>[0:iX [⟨0⟩:sa.trans sb]])
  rintro σ HD ⟨⟨aD,rfl⟩,bS⟩;refine qD _ _ ?_;let a4:=a2.trans bS;let bT:=a4 _ _ aO;let a5:=aP.mono a4.tk
  rw[_,uN _,λtE bU=>?_];let nE:=qf bU (.tup ([]:oj V));intro x2 aE a6 a7 cb;let mE:ie (upd HD tE (.tup ([]:oj V))) (upd (upd (upd HD tE (.tup ([]:oj V))) aE (.own x2)) x2 (.ins a.qI aE [])):=λb ob e=>by
   rwa[qk (qi e a6),qk (qi e a7)]
  rw[_,x2,aE,tE,[],[],1,qg,mE _ _ qg,1,⟨⟨(λz hz=>by rw[hz,0]),vY⟩,λp hp=>by rw[hp,0]⟩,(),λcn HE aF bV bW am=>[1:?_]]
  let bX:ie HD HE:=λb ob e=>aF b ob (mE _ _ (nE _ _ e)) (qi (nE _ _ e) a6);rw[am.eq_nil,0]
  rw[_,x2,"a",[],1,(),bV,bW,λ_ v HF sF iF=>?_,λh=>A9 h ()]
  let eL:nW [] "a"=-[-"lack"]:=rfl;rw[eL] at iF
  rw[_,sml rfl,λtG a8=>?_];let nG:=qf a8 (-[V.str "lack"]);let iG:Is (upd HF tG (-[V.str "lack"])) (-[-"lack"]) (-tG):=Is.new (ds:= [-"lack"]) (_,0,QJ (),1) a8
  rw[_,[-"lack"],[-"lack"],iF.mono nG.tk,iG,1,1,by simp[dpL,dp]]
  let a9:=(bX.trans sF).trans nG;let aG:=a9 _ _ bT;let ae:=a5.mono a9.tk;generalize upd HF tG (-[V.str "lack"])=HG at aG ae⊢
  rw[0,lD () ?_]
  rw[0,L,us,1,.inl [SqL.of aG:λtH bY=>?_]];let nH:=qf bY (¬us);intro x3 aH ba bb cc;let mH:ie (upd HG tH (¬us)) (upd (upd (upd HG tH (¬us)) aH (.own x3)) x3 (.ins a.qI aH [])):=λb ob e=>by
   rwa[qk (qi e ba),qk (qi e bb)]
  let bc:=nH.trans mH
  rw[_,x3,aH,tH,ps,us,1,qg,mH _ _ qg,ae.mono bc.tk,hok,aK,λbd HH aI bf ao ap=>[1:?_]];let bZ:ie HG HH:=λb ob e=>aI b ob (bc _ _ e) (qi (nH _ _ e) ba);erw[id bf,b3,dp,op,cp,b4,_]
  rw[_,x3,b3,0,b4,Abq,x3,bd,1,bf,ao,λv HI sI iI=>?_];let bg:=bZ.trans sI;erw[Af1 (ae.mono bg.tk),ds,d1,d2,d3];let dl:↑ds=↑ps:=by rw[<-d2,uc]
  rw[0,L,ds,1,SqL.of (by rw[d1];exact bg _ _ aG),SK hok d2 d3,(),λes q' ep b5 b6=>?_]
  let b7:es.map hdD=bd:=by
   let aC:(es.map hdD).Perm ps:=by rw[<-d2];exact ep.map _
   refine(SL ao.1.1.2 (ap.trans aC.symm) (List.pairwise_map.mp (WX ao.2.1)) ?_).symm;refine List.pairwise_map.mpr (b5.imp λ{x y} h=>?_);rwa[CH]
  let bh:=D6 λy hy=>(d3 y (ep.mem_iff.mp hy)).2;rw[b7] at bh;let nQ:=qf b6 (.lst (es.map (·.2.2)))
  rw[_,q',0,.inl [SqL.of qg:λtJ b8=>?_]];let nJ:=qf b8 (.tup (es.map (·.2.2)));erw[Adb ao,nl,b9]
  rw[_,_,_,iI.mono (nQ.trans nJ).tk,(tJ,0,qg,bh.mono (nQ.trans nJ).tk),nl,nl,b9];rw[(qaF nl).mpr rfl];exact k _
 rw[0,L,us,1,.inl (SqL.of aO),_,0,1,0,lz (λ_=>?_) (λ_=>aQ l5 NX H5 (ie.refl _) e5 nx_ok ())]
 rw[0,q,ns,_,(10),1,aA,(),(),(),λl zs H6 s6 hl ag ce=>?_]
 exact aQ l zs H6 s6 hl ag ()
end
def AeR {K:o0}{h:o8}{mg:Str->om o6}(X:K.In h)(G:h.Ns VW mg){U aa O ac f1 f2 f3 f4 f5 f6 f7 f8 f9 aW aX aY aZ a1 a2 a3 a4 a5 a6 a7 a8 a9 ba bb bc bd bf bg bh bo bp bq bu bv bw bx bA bB bC bD bE bF bG bH bI bJ bK bL bM bN bO bP bQ bR bS bT bU bV bW bX bY bZ b3 b4 b5 b6 b7 b8 b9 ca cb cc ce cf cg ch ci cj ck cm cn cp cq cr cs cu cv cw:o3}{t1 t2 t3 t4 t5 t6 t7 t8 t9 cx cy:Tok}
  (aL:#[K,"Machine"]=u_ (u_ (-U))) (aM:Cls K U) (aC:PySem.W.makesIn K U=v_/\PySem.W.keepIn K (-U)=v_)
  (aP:#[K,"Going"]=u_ (u_ (-aa))) (aQ:Cls K aa) (aK:PySem.W.makesIn K aa=v_/\PySem.W.keepIn K (-aa)=v_)
  (aE:#[K,"PlainOrder"]=u_ (u_ (-O))) (aF:Cls K O) (ag:PySem.W.makesIn K O=v_/\PySem.W.keepIn K (-O)=v_)
  (aN:#[K,"Project"]=u_ (u_ (-ac))) (aO:Cls K ac) (aD:PySem.W.makesIn K ac=v_/\PySem.W.keepIn K (-ac)=v_)
  (h1:FZg K "is_text" Wy f1)
  (h2:FZg K "is_tree" zl f2)
  (h3:FZg K "is_name" WH f3)
  (h4:FZg K "is_pair" wN f4)
  (h5:FZg K "is_row_of_names" Yf f5)
  (h6:FZg K "is_answer" Xq f6)
  (h7:FZg K "part_of" WE f7)
  (h8:FZg K "pieces_of" Xz f8)
  (h9:FZg K "row_of" wv f9)
  (h10:FZg K "read_lines" JM aW)
  (h11:FZg K "rule_rows" Xm aX)
  (h12:FZg K "bad_line" Zb aY)
  (h13:FZg K "is_rule" w6 aZ)
  (cz:FZg K "text_made" Xr a1)
  (cA:FZg K "self_made" XD a2)
  (cB:FZg K "copy_made" Xt a3)
  (cC:FZg K "row_made" Zx a4)
  (cD:FZg K "put_made" zV a5)
  (cE:FZg K "join_made" XS a6)
  (cF:FZg K "first_made" xb a7)
  (cG:FZg K "rest_made" Xx a8)
  (cH:FZg K "size_made" Xe a9)
  (cI:FZg K "cut_made" Zo ba)
  (cJ:FZg K "glue_made" Xo bb)
  (cK:FZg K "is_jump_taken" Y2 bc)
  (cL:FZg K "asked_or_fault" Yr bd)
  (aR:FZm K U "__init__" "Machine.__init__" jo bf)
  (cM:FZm K U "now" "Machine.now" jO bg)
  (cN:FZm K U "answer" "Machine.answer" Yq bh)
  (cO:FZm K U "asked" "Machine.asked" Y4 bo)
  (cP:FZm K U "go_on" "Machine.go_on" YK bp)
  (cQ:FZm K U "is_waiting" "Machine.is_waiting" yh bq)
  (cR:FZm K U "do_row" "Machine.do_row" Yu bu)
  (cS:FZm K U "hold" "Machine.hold" jm bv)
  (aS:FZm K aa "__init__" "Going.__init__" Jv bw)
  (cT:FZm K aa "begin" "Going.begin" jV bx)
  (cU:FZm K aa "look" "Going.look" JC bA)
  (cV:FZm K aa "wanted" "Going.wanted" jp bB)
  (cW:FZm K aa "take" "Going.take" JZ bC)
  (cX:FZm K aa "full" "Going.full" JY bD)
  (aU:FZm K O "__init__" "PlainOrder.__init__" Yg bE)
  (cY:FZm K O "begin_anew" "PlainOrder.begin_anew" QV bF)
  (cZ:FZm K O "go_through" "PlainOrder.go_through" QS bG)
  (c0:FZm K O "enter" "PlainOrder.enter" yI bH)
  (c1:FZm K O "settle" "PlainOrder.settle" yq bI)
  (c2:FZm K O "runner" "PlainOrder.runner" yp bJ)
  (c3:FZm K O "leave" "PlainOrder.leave" yF bK)
  (c4:FZm K O "go_on" "PlainOrder.go_on" yK bL)
  (c5:FZm K O "answer_yet" "PlainOrder.answer_yet" QX bM)
  (c6:FZg K "answer_at_once" Ys bN)
  (c7:FZg K "answer_by" Xc bO)
  (c8:FZg K "check_name" JP bP)
  (c9:FZg K "check_names" jT bQ)
  (da:FZg K "order_from" Jw bR)
  (de:FZg K "order_over" J6 bS)
  (dh:FZg K "answer_of" XR bT)
  (di:FZg K "full_run" zQ bU)
  (dj:FZg K "value_of" zR bV)
  (dk:FZg K "chain_of" zT bW)
  (dl:FZg K "met_by" qaP bX)
  (dm:FZg K "is_source" XG bY)
  (aV:FZm K ac "__init__" "Project.__init__" Ym bZ)
  (dq:FZm K ac "sources" "Project.sources" Ye b3)
  (dt:FZm K ac "source_of" "Project.source_of" yr b4)
  (dv:FZm K ac "looked_up" "Project.looked_up" QW b5)
  (dw:FZg K "longest_row" jU b6)
  (dy:FZg K "_law_cell_at" jK b7)
  (dz:FZg K "_law_pot" W4 b8)
  (dA:FZg K "_law_take" Zq b9)
  (dB:FZg K "_law_word" Zz ca)
  (dC:FZg K "_law_line" xo cb)
  (dD:FZg K "_law_rule" xj cc)
  (dE:FZg K "_law_maker" Xw ce)
  (dF:FZg K "_law_leaf" xl cf)
  (dG:FZg K "_law_source" J3 cg)
  (dH:FZg K "_law_all_names" Y3 ch)
  (dI:FZg K "_law_link" Zj ci)
  (dJ:FZg K "_law_sources" jW cj)
  (dL:FZg K "_law_wide_names" Yw ck)
  (dM:FZg K "_law_drawn_names" yc cm)
  (dN:FZg K "_law_tried" XA cn)
  (dO:FZg K "_law_looked_up" YX cp)
  (dP:FZg K "_law_by_rounds" Q9 cq)
  (dQ:FZg K "_law_answer" Jr cr)
  (dR:FZg K "_law_asked" XO cs)
  (dS:FZg K "_law_refused" jN cu)
  (dU:FZg K "_law_loop_right" Yt cv)
  (dV:FZg K "law" Aas cw)
  (ay:#[K,U,"rows"])
  (aA:#[K,U,"rule"])
  (aG:#[K,U,"own"])
  (ap:#[K,U,"boxes"])
  (aq:#[K,U,"place"])
  (aB:#[K,U,"done"])
  (au:#[K,U,"given"])
  (aw:#[K,U,"there"])
  (aI:#[K,aa,"name"])
  (aH:#[K,aa,"order"])
  (ax:#[K,aa,"made_by"])
  (al:#[K,aa,"rule_asks"])
  (ao:#[K,aa,"rule_run"])
  (aJ:#[K,aa,"end"])
  (ad:#[K,O,"given_project"])
  (ah:#[K,O,"stack"])
  (ae:#[K,O,"under_way"])
  (af:#[K,O,"full_runs"])
  (ak:#[K,O,"found"])
  (am:#[K,ac,"by_name"])
  (g1:#[K,"MOST_SIGNS"]=u_ (u_ (.int 300 t1)))
  (g2:#[K,"MOST_PARTS"]=u_ (u_ (.int 40 t2)))
  (g3:#[K,"MOST_SIZE"]=u_ (u_ (.int 600 t3)))
  (g4:#[K,"MOST_DEPTH"]=u_ (u_ (.int 12 t4)))
  (g5:#[K,"MOST_NAME_SIGNS"]=u_ (u_ (.int 24 t5)))
  (g6:#[K,"LETTERS"]=u_ (u_ (.str "abcdefghijklmnopqrstuvwxyz" t6)))
  (g7:#[K,"NAME_SIGNS"]=u_ (u_ (.str "abcdefghijklmnopqrstuvwxyz0123456789./" t7)))
  (g8:#[K,"PERCENT"]=u_ (u_ (.int 37 t8)))
  (g9:#[K,"MOST_LINES"]=u_ (u_ (.int 40 t9)))
  (dW:#[K,"MOST_DONE"]=u_ (u_ (.int 300 cx)))
  (dX:#[K,"MOST_NAMES"]=u_ (u_ (.int 60 cy)))
  (zz:∀x>(["ord","len","isinstance","str","tuple","all","int","range","zip","dict","sorted","abs","min","sum","max","reversed","list","ValueError"]:oj Str),PySem.W.nsIn K VW x=u_ U_):∃a,Tx K mg a:=by
 rw[6,d1,F1,Qg,h1,["value"]];rw[6,d2,F2,Qg,h2,["value"]];rw[6,d3,F3,Qg,h3,["value"]];rw[6,d4,F4,Qg,h4,["value"]];rw[6,d5,F5,Qg,h5,["tree"]];rw[6,d6,F6,Qg,h6,["ask","answer"]];rw[6,d7,F7,Qg,h7,["kind","piece","count"]];rw[6,d8,F8,Qg,h8,["line","form"]];rw[6,d9,F9,Qg,h9,["line","count"]];rw[6,dY,dZ,Qg,h10,["value"]];rw[6,d0,ea,Qg,h11,["tree"]];rw[6,eb,ec,Qg,h12,["tree"]];rw[6,ed,ef,Qg,h13,["value"]];rw[6,eg,eh,Qg,cz,#[11]];rw[6,ei,ej,Qg,cA,#[11]];rw[6,ek,el,Qg,cB,#[11]];rw[6,em,eo,Qg,cC,#[11]];rw[6,eq,er,Qg,cD,#[11]];rw[6,et,eu,Qg,cE,#[11]];rw[6,ey,ez,Qg,cF,#[11]];rw[6,eA,eB,Qg,cG,#[11]];rw[6,eC,eD,Qg,cH,#[11]];rw[6,eE,eF,Qg,cI,#[11]];rw[6,eG,eH,Qg,cJ,#[11]];rw[6,eI,eJ,Qg,cK,["boxes","word","parts"]];rw[6,eK,eL,Qg,cL,["word","held"]];obtain⟨eM,eN⟩:=yZ aR ["self","rule","own"] (by rfl');obtain⟨eO,eP⟩:=yZ cM ["self"] (by rfl');obtain⟨eQ,eR⟩:=yZ cN ["self","tree"] (by rfl');obtain⟨eS,eT⟩:=yZ cO ["self"] (by rfl');obtain⟨eU,eV⟩:=yZ cP ["self"] (by rfl');obtain⟨eW,eX⟩:=yZ cQ ["self"] (by rfl');obtain⟨eY,eZ⟩:=yZ cR ["self","row"] (by rfl');obtain⟨e0,e1⟩:=yZ cS ["self","box","tree"] (by rfl');obtain⟨e2,e3⟩:=yZ aS ["self","name","source","order"] (by rfl');obtain⟨e4,e5⟩:=yZ cT ["self","rule"] (by rfl');obtain⟨e6,e7⟩:=yZ cU ["self"] (by rfl');obtain⟨e8,e9⟩:=yZ cV ["self"] (by rfl');obtain⟨fa,fb⟩:=yZ cW ["self","answer"] (by rfl');obtain⟨fc,fe⟩:=yZ cX ["self"] (by rfl');obtain⟨ff,fg⟩:=yZ aU ["self","project"] (by rfl');obtain⟨fh,fi⟩:=yZ cY ["self","project"] (by rfl');obtain⟨fj,fm⟩:=yZ cZ ["self","name"] (by rfl');obtain⟨fo,fq⟩:=yZ c0 ["self","name"] (by rfl');obtain⟨ft,fu⟩:=yZ c1 ["self","going"] (by rfl');obtain⟨fv,fw⟩:=yZ c2 ["self","rule","own"] (by rfl');obtain⟨fx,fy⟩:=yZ c3 ["self","going"] (by rfl');obtain⟨fz,fA⟩:=yZ c4 ["self","going"] (by rfl');obtain⟨fB,fC⟩:=yZ c5 ["self","name"] (by rfl');rw[6,fD,fE,Qg,c6,["source"]];rw[6,fF,fG,Qg,c7,["end"]];rw[6,fH,fI,Qg,c8,["name"]];rw[6,fJ,fK,Qg,c9,["names"]];rw[6,fL,fM,Qg,da,["project","name"]];rw[6,fN,fO,Qg,de,["project","names"]];rw[6,fP,fQ,Qg,dh,["project","name"]];rw[6,fR,fS,Qg,di,["project","name"]];rw[6,fT,fU,Qg,dj,["project","name"]];rw[6,fV,fW,Qg,dk,["project","name"]];rw[6,fX,fY,Qg,dl,["project","name"]];rw[6,fZ,f0,Qg,dm,["value"]];obtain⟨gb,gc⟩:=yZ aV ["self","sources"] (by rfl');obtain⟨ge,gf⟩:=yZ dq ["self"] (by rfl');obtain⟨gg,gh⟩:=yZ dt ["self","name"] (by rfl');obtain⟨gj,gk⟩:=yZ dv ["self","ask"] (by rfl');rw[6,gl,gm,Qg,dw,["names"]];rw[6,gp,gq,Qg,dy,["script","k"]];rw[6,gr,gu,Qg,dz,["cell","salt"]];rw[6,gv,gw,Qg,dA,["pot","many"]];rw[6,gx,gy,Qg,dB,["pot","names"]];rw[6,gz,gA,Qg,dC,["pot","names","many","k"]];rw[6,gB,gC,Qg,dD,["pot","names"]];rw[6,gD,gE,Qg,dE,["pot","names"]];rw[6,gF,gG,Qg,dF,["pot","names"]];rw[6,gH,gI,Qg,dG,["pot","names"]];rw[6,gJ,gK,Qg,dH,["script"]];rw[6,gL,gM,Qg,dI,["pot","names","k"]];rw[6,gN,gO,Qg,dJ,["script"]];rw[6,gP,gQ,Qg,dL,["script"]];rw[6,gR,gS,Qg,dM,["script","salt","many"]];rw[6,gT,gU,Qg,dN,["sources","name","values"]];rw[6,gW,gX,Qg,dO,["sources","kind","text"]];rw[6,gY,gZ,Qg,dP,["sources"]];rw[6,hb,hc,Qg,dQ,["sources","runs","name"]];rw[6,he,hf,Qg,dR,["project","which","name"]];rw[6,hg,hh,Qg,dS,["project","which","name"]];rw[6,hj,hk,Qg,dU,["cell"]];rw[6,hl,ho,Qg,dV,["script"]];let z:∀x>(["ord","len","isinstance","str","tuple","all","int","range","zip","dict","sorted","abs","min","sum","max","reversed","list","ValueError"]:oj Str),mg x=none:=λx hx=>PySem.W.mg_none_of X G (zz x hx);simp![uH,vn,uU,forall_eq_or_imp,forall_eq] at z;erw[z,z1,z2,z3,z4,z5,z6,z7,z8,z9,hp,hq,hr,hs,ht,hu,hv,hw,hy,<-[(f1,d1,f2,d2,f3,d3,f4,d4,f5,d5,f6,d6,f7,d7,f8,d8,f9,d9,aW,dY,aX,d0,aY,eb,aZ,ed,a1,eg,a2,ei,a3,ek,a4,em,a5,eq,a6,et,a7,ey,a8,eA,a9,eC,ba,eE,bb,eG,bc,eI,bd,eK,bf,eM,bg,eO,bh,eQ,bo,eS,bp,eU,bq,eW,bu,eY,bv,e0,bw,e2,bx,e4,bA,e6,bB,e8,bC,fa,bD,fc,bE,ff,bF,fh,bG,fj,bH,fo,bI,ft,bJ,fv,bK,fx,bL,fz,bM,fB,bN,fD,bO,fF,bP,fH,bQ,fJ,bR,fL,bS,fN,bT,fP,bU,fR,bV,fT,bW,fV,bX,fX,bY,fZ,bZ,gb,b3,ge,b4,gg,b5,gj,b6,gl,b7,gp,b8,gr,b9,gv,ca,gx,cb,gz,cc,gB,ce,gD,cf,gF,cg,gH,ch,gJ,ci,gL,cj,gN,ck,gP,cm,gR,cn,gT,cp,gW,cq,gY,cr,hb,cs,he,cu,hg,cv,hj,cw,hl,U,aa,O,ac):(F1,F2,F3,F4,F5,F6,F7,F8,F9,dZ,ea,ec,ef,eh,ej,el,eo,er,eu,ez,eB,eD,eF,eH,eJ,eL,eN,eP,eR,eT,eV,eX,eZ,e1,e3,e5,e7,e9,fb,fe,fg,fi,fm,fq,fu,fw,fy,fA,fC,fE,fG,fI,fK,fM,fO,fQ,fS,fU,fW,fY,f0,gc,gf,gh,gk,gm,gq,gu,gw,gy,gA,gC,gE,gG,gI,gK,gM,gO,gQ,gS,gU,gX,gZ,hc,hf,hh,hk,ho,aM,(aC.1,aR.1,aR.2.1,aC.2),uO X G aL,ay,aA,aG,ap,aq,aB,au,aw,aQ,(aK.1,aS.1,aS.2.1,aK.2),uO X G aP,aI,aH,ax,al,ao,aJ,aF,(ag.1,aU.1,aU.2.1,ag.2),uO X G aE,ad,ah,ae,af,ak,aO,(aD.1,aV.1,aV.2.1,aD.2),uO X G aN,am,[_:uO X G g1],[_:uO X G g2],[_:uO X G g3],[_:uO X G g4],[_:uO X G g5],[_:uO X G g6],[_:uO X G g7],[_:uO X G g8],[_:uO X G g9],[_:uO X G dW],[_:uO X G dX],z1,z2,z3,z4,z5,z6,z7,z8,z9,hp,hq,hr,hs,ht,hu,hv,hw,hy)]]
variable {K:o0}{h:o8}{mg:Str->om o6}
def mk1 (X:K.In h)(G:h.Ns VW mg){O f:o3}{y:Str}(z:∃m,PySem.W.nsIn K VW y=u_ (u_ (-m))/\PySem.W.nsIn K O x=u_ (u_ (-m)))(e:mg y=u_ (-f)):PySem.W.nsIn K O x=u_ (u_ (-f)):=by
 erw[z,m,h1,h2];have:=(uO X G h1).symm.trans e;injection this with this
 injection this with this
 rw[<-this];exact h2
abbrev MKP:oj (Str×Str):= [("text","text_made"),("self","self_made"),("copy","copy_made"),("row","row_made"),("put","put_made"),("join","join_made"),("first","first_made"),("rest","rest_made"),("size","size_made"),("cut","cut_made"),("glue","glue_made")]
abbrev AdP (e:HM):om Str:=match e.key with
 | .str x _=>u_ x|_=>U_
variable {a:o3}{es:Array HM}
set_option tactic.hygienic true in
def none_of (hl:K.lookup a=u_ (.type "dict",U_,.dict es n,#[]))(hk:es.toList.map AdP=FRM.map λx=>u_ x.1)(hz:xS z=U_):PySem.W.nsIn K a z=u_ none:=by
 let h1:∀e>es.toList,∃x t,e.key= .str x t/\x≠z:=by
  intro e U;let hm:AdP e>es.toList.map AdP:=Af.mpr [e:U:1];rw[hk] at hm;erw[Af.mp hm,x,hx,ex];let O:=Wm hz x hx;unfold AdP at ex;split at ex
  .rename_i y t hy
   rw[ex,0];exact(_,_,hy,O)
  .rw[ex,0]
 unfold PySem.W.nsIn;rw[hl]
 try dsimp only
 let f1:es.toList.find? (λe=>e.key.isStr z)=none:=by
  rw[UK];intro e U;erw[h1 e U,x,t,hx,O];rw[hx];exact λq=>O (uq q)
 let f2:es.toList.any (·.refKey)=false:=by
  rw[rq];intro e U;erw[h1 e U,x,t,hx,O];unfold pJ;rw[hx];exact uh
 rw[f1,f2]
 rfl
def AfB {w:og}{K:o0}{h:o8}{mg:Str->om o6}{a:Ad}(T:Tx K mg a)(X:K.In h)(G:h.Ns VW mg){aB aA aF aM U O ac aa aW:o3}{eF eM:Array HM}{nF nM:Nat}
  (gB:#[K,"BOXES"]=u_ (u_ (-aB))) (gA:#[K,"ASKING"]=u_ (u_ (-aA))) (gF:#[K,"FORMS"]=u_ (u_ (-aF))) (gM:#[K,"MAKERS"]=u_ (u_ (-aM)))
  (lB:TZ K aB BX) (lA:TZ K aA ["ask","has","names"]) (lF:K.lookup aF=u_ (.type "dict",U_,.dict eF nF,#[])) (lM:K.lookup aM=u_ (.type "dict",U_,.dict eM nM,#[]))
  (kF:PySem.W.KeysLit w.params eF.toList) (kM:PySem.W.KeysLit w.params eM.toList) (zF:(aF==VY)=Vt) (zM:(aM==VY)=Vt)
  (fF:∀x>FRM,TZn K aF x.1 (x.2.map Kd.t)) (fM:∀p>MKP,∃m,PySem.W.nsIn K VW p.2=u_ (u_ (-m))/\PySem.W.nsIn K aM p.1=u_ (u_ (-m))) (oM:∀z>Aep,PySem.W.nsIn K aM z=u_ U_)
  (kk:eF.toList.map AdP=FRM.map λx=>u_ x.1)
  (g1:#[K,"BadRule"]=u_ (u_ (-U))) (b1:PySem.W.excIn K U VE "ValueError.__new__"=v_)
  (g2:#[K,"BadName"]=u_ (u_ (-O))) (b2:PySem.W.excIn K O VE "ValueError.__new__"=v_)
  (g3:#[K,"NoThing"]=u_ (u_ (-aa))) (b3:PySem.W.excIn K aa VE "ValueError.__new__"=v_)
  (g4:#[K,"BadThing"]=u_ (u_ (-ac)))
  (gW:#[K,"WrightError"]=u_ (u_ (-aW)))
  (e2:PySem.W.exmOne K (-O) (-aW)=u_ v_) (x2:AwV.xH K O) (v2:PySem.W.kitOne K (-O) (.type "ValueError")=u_ v_) (o2:PySem.W.kitAny K (-O) [-U,-ac,-aa]=u_ Vt):∃g,Fx K w mg g a:=by
 rw[_,(aB,aA,aF,aM,U,O,ac,aa,aW),(uO X G gB,uO X G gA,uO X G gF,uO X G gM,λH=>lB.sq (),λH=>lA.sq (),(zF,eF,nF,lF,kF),λx hx=>?_,(zM,eM,nM,lM,kM),mk1 X G (fM ("text","text_made") ()) T.lH.m,mk1 X G (fM ("self","self_made") ()) T.lJ.m,mk1 X G (fM ("copy","copy_made") ()) T.lR.m,mk1 X G (fM ("row","row_made") ()) T.l8.m,mk1 X G (fM ("put","put_made") ()) T.me.m,mk1 X G (fM ("join","join_made") ()) T.lO.m,mk1 X G (fM ("first","first_made") ()) T.li.m,mk1 X G (fM ("rest","rest_made") ()) T.lK.m,mk1 X G (fM ("size","size_made") ()) T.lI.m,mk1 X G (fM ("cut","cut_made") ()) T.mh.m,mk1 X G (fM ("glue","glue_made") ()) T.lQ.m,oM,λz hz=>none_of lF kk hz,uO X G g1,b1,uO X G g2,b2,uO X G g3,b3,uO X G g4,uO X G gW,e2,x2,v2,o2)]
 erw[fF x hx,q,h1,h2,<-⟨q,h1,λH=>by rw[Zm];exact h2.sq (by rw[uc];exact uP (CZ x hx) ())⟩]
end K20
open PySem PySem.W PyProof.Rows L2
set_option maxRecDepth 100000 in
set_option maxHeartbeats 0 in
theorem PySem.Challenge.cw_askwright_k20_answers_by_rounds_holds : PySem.Challenge.rw_askwright_k20_answers_by_rounds.Holds := by
 w_on;o_law;k_head;(case hw=>w_witness2)
 k_fill
 refine L2.Mm (l:=PySem.Challenge.rw_askwright_k20_answers_by_rounds) (n:=63) (k:=20) (x:="script") (CX:=L2.CX0) (sp:=K20.OA) rfl (by decide) rfl ⟨rfl,by decide,by decide⟩ (fun w h Y=>PySem.W.kIn_of Y) ?F ?S ?C
 case F=>
  intro w mg fa h KX G hmg
  let T:∃a,K20.Tx (L2.KOf KX) mg a:=by
   try dsimp only [L2.KOf]
   refine' K20.AeR KX G ..
   all_goals first|exact(by k_is,_,_,_,_,_,_,_,_,_,by k_is,by k_is,by k_is)|exact(by k_is,by k_is,_,_,_,_,_,_,_,_,_,by k_is,by k_is,by k_is)|(show _=_;k_is)|exact(by k_is,by k_is,by k_is,by k_is)|exact⟨by k_is,by k_is⟩|(intro x hx;simp only [uH,vn,uU] at hx;rcases hx with rfl|rfl|rfl|rfl|rfl|rfl|rfl|rfl|rfl|rfl|rfl|rfl|rfl|rfl|rfl|rfl|rfl|rfl<;>k_is)|skip
  erw[T,a,T]
  let C:∃g,K20.Fx (L2.KOf KX) w mg g a:=by
   try dsimp only [L2.KOf] at T⊢
   refine' K20.AfB T KX G (kF:= ?kF) (kM:= ?kM) (fF:= ?fF) (fM:= ?fM) (oM:= ?oM) (kk:= ?kk) (b1:= ?b1) (b2:= ?b2) (b3:= ?b3) (e2:= ?e2) (x2:= ?x2) (v2:= ?v2) (o2:= ?o2) ..
   all_goals try (first|(show _=u_ (u_ _);k_is)|(show _=u_ (Obj.mk _ _ _ _);k_is)|exact(_,_,_,_,by k_is,rfl))
   (case kF=>(repeat (first|exact trivial|refine[⟨_,_,rfl,rfl⟩:?_])));(case kM=>(repeat (first|exact trivial|refine[(_,_,rfl,rfl):?_])))
   case fF=>
    intro x hx
    unfold FRM at hx
    simp only [uH,vn,uU] at hx
    rcases hx with rfl|rfl|rfl|rfl|rfl|rfl|rfl|rfl|rfl|rfl|rfl|rfl|rfl|rfl|rfl|rfl|rfl|rfl|rfl|rfl<;>exact(_,by k_is,_,_,_,_,by k_is,rfl)
   case fM=>
    intro x hx
    unfold K20.MKP at hx
    simp only [uH,vn,uU] at hx
    rcases hx with rfl|rfl|rfl|rfl|rfl|rfl|rfl|rfl|rfl|rfl|rfl<;>exact⟨_,by k_is,by k_is⟩
   case oM=>
    intro x hx
    unfold K20.Aep at hx
    simp only [uH,vn,uU] at hx
    rcases hx with rfl|rfl|rfl|rfl|rfl|rfl|rfl|rfl|rfl<;>k_is
   (case kk=>rfl);(case b1=>k_exc);(case b2=>k_exc);(case b3=>k_exc);(case e2=>kts_exm);(case x2=>exact(by k_is,by k_is,by k_is,by k_is,by k_is,by k_is,by k_is));(case v2=>kit_is);(case o2=>kit_is)
   all_goals rfl
  erw[C,g,C]
  let e0:=hmg.symm.trans T.CW.m
  rw[e0,0]
  exact(_,T.CW.law (fun _ _ _ _ _ _ _=>rfl),(by erw[T.CW.F.ex,_,_,_,_,_,_,_,_,_,e,_];rw [e];rfl),fun base kb nb=>K20.Adu T C)
 case S=>exact fun w H a ns hl hO hS=>(a,ns,rfl,hS,hl,fun _=>rfl)
 case C=>exact fun _ _ _ _ z=>z
